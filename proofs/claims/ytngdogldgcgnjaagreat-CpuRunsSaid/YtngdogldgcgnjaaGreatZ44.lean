/-
  What the document's Step does with an order: for every world; the memory is there.
-/
import Derived.Test.YtngdogldgcgnjaaGreatZ41
import Derived.Deep.Cut
import Derived.LoopN
import Derived.Deep.DeepCutAuto
import Derived.Deep.CutBlock
set_option maxRecDepth 100000
set_option maxHeartbeats 8000000
namespace Go.Proofs.YtngdogldgcgnjaaGreat
open Go.ChangeShapes Go.WideShapes Go.ChangeAt Go.RowKit
open Reg
set_option linter.unusedVariables false
section
variable {w : World} {P R M tb n : Nat} {v : Value} {y : Sy}
theorem mstep_r3 (h0 : Bus memC w R M tb v y.m y.acc n) (hn : n < 500000) (ok : y.s.r.ok) (p : Int) (b0 b1 b2 : Nat) (o : OpV) (hst : y.s.stop = false) (hh : y.s.halt = true → ¬ p = 0) (hi : y.s.ime = true → p = 0) (hp : pend y.m = p) (hb0 : y.m (y.s.r.pc) = (b0 : Int)) (hb1 : y.m (up y.s.r.pc) = (b1 : Int)) (hb2 : y.m (up (up y.s.r.pc)) = (b2 : Int)) (l0 : b0 < 256) (l1 : b1 < 256) (l2 : b2 < 256) (hsz : (decF b0 0 0).s = 3) (ho : decF b0 b1 b2 = o) (t : Bool) (ht : takenV o (fetchN 3 (setSoon false (setHalt false y))) = t) : Calls Tryz.prog 15 #[.agg #[.int .u8 y.s.r.a, .int .u8 y.s.r.f, .int .u8 y.s.r.b, .int .u8 y.s.r.c, .int .u8 y.s.r.d, .int .u8 y.s.r.e, .int .u8 y.s.r.h, .int .u8 y.s.r.l, .int .u16 y.s.r.sp, .int .u16 y.s.r.pc, .bool y.s.ime, .bool y.s.soon, .bool y.s.halt, .bool y.s.stop], .pointer (some ⟨R, 0, none⟩)] w (ME R M tb v w (mrun 3 o t y) (⟨1, 0, y.s.r.pc, o, t⟩) (n + 12)) := by
 have HST := Hd hst; have HH := Hd hh; have HI := Hd hi; have HO_ := Hd ho; have HT := Hd ht
 have HBB := Hd (show y.m (y.s.r.pc) = (b0 : Int) ∧ y.m (up y.s.r.pc) = (b1 : Int) ∧ y.m (up (up y.s.r.pc)) = (b2 : Int) ∧ True from ⟨hb0, hb1, hb2, trivial⟩)
 clear hst hh hi ho ht hb0 hb1 hb2; obtain ⟨P, A, B_, w0, hP, hA, hB, hw, LP, LA, LB, H1_, S0, B0, KP⟩ := start_m h0 ok; clear h0; go_enter Tryz.func15, Tryz.ntmps15; go_upto_region 1 with (fail); rw [← hw, ← hB, ← hA, ← hP]; clear hP hA hB hw; have M0 := Hd (PM.refl P R M tb v w0); obtain ⟨hc, hf⟩ := S0.out.cm; have hst := HST.out; have CP := Hd (mpend_p S0.out); rw [hp] at CP; go_upto_region 7 with (fail); clear hst; go_wp2_with fail
 with_reducible refine (CP.out).mono ?_
 rintro e w1 ⟨rfl, v1, s', m'⟩; replace KP := Hd (KP.out.next m'); have M1 := M0.tr m'; clear hc hf; obtain ⟨hc, hf⟩ := s'.cm; have S1 := Hd s'; clear s' m'; go_upto_region 8 with (fail); obtain ⟨hv, hhv⟩ : ∃ q_, q_ = y.s.halt := ⟨_, rfl⟩
 have h12 : w1.cell? ⟨P, 12, none⟩ = some (.bool hv) := by rw [hhv]; exact hc 12
 have HV := Hd hhv; clear hhv hc hf
 go_cut [39] (fun s39 wx => s39 = .bool false ∧ wx = w1)
 case first =>
  cases hv
  ·go_wp2
   go_meet
   exact ⟨rfl, rfl⟩
  ·have pn := HH.out HV.out.symm
   have hpn : (p == 0) = false := by rw [beq_eq_false_iff_ne]; exact pn
   go_wp2
   go_meet
   exact ⟨rfl, rfl⟩
 case rest =>
  obtain ⟨rfl, e_⟩ := hcut; have e_ := e_.symm; subst e_; clear h12; obtain ⟨hc, hf⟩ := S1.out.cm; go_upto_region 11 with (fail); go_upto_region 12 with (fail); have q := S1.out.stHalt false; have s' := q.1; have m' := q.2; clear q; generalize (World.setCell w1 ⟨P, 12, none⟩ (.bool false)) = w2 at s' m' ⊢; replace KP := Hd (KP.out.next m'); have M2 := M1.tr m'; clear hc hf; obtain ⟨y2, Y2, S2, hc, hf⟩ := sx (setHalt false y) s'; clear s' m'; obtain ⟨iv, hiv⟩ : ∃ q_, q_ = y2.s.ime := ⟨_, rfl⟩
  have h10 : w2.cell? ⟨P, 10, none⟩ = some (.bool iv) := by rw [hiv]; exact hc 10
  have IV := Hd hiv; clear hiv hc hf
  go_cut [51] (fun s51 wx => s51 = .bool false ∧ wx = w2)
  case first =>
   cases iv
   ·go_wp2
    go_meet
    exact ⟨rfl, rfl⟩
   ·have hpz : (p == 0) = true := by rw [beq_iff_eq]; exact HI.out (by have e := IV.out; rw [Y2.out] at e; exact e.symm)
    have hpy : (p != 0) = false := by rw [bne, hpz]; rfl
    go_wp2
    go_meet
    exact ⟨rfl, rfl⟩
  case rest =>
   obtain ⟨rfl, e_⟩ := hcut; have e_ := e_.symm; subst e_; clear h10; obtain ⟨hc, hf⟩ := S2.out.cm; go_upto_region 26 with (fail); go_upto_region 28 with (fail); have q := S2.out.stSoon false; have s' := q.1; have m' := q.2; clear q; generalize (World.setCell w2 ⟨P, 11, none⟩ (.bool false)) = w3 at s' m' ⊢; replace KP := Hd (KP.out.next m'); have M3 := M2.tr m'; clear hc hf; obtain ⟨y3, Y3, S3, hc, hf⟩ := sx (setSoon false y2) s'; clear s' m'; have q_ := own1 w3 (.cells #[.int .u8 0, .int .u8 0, .int .u8 0] 5); have s' := S3.out.below q_; have m' : PM P R M tb v1 w3 v1 (w3.alloc (.cells #[.int .u8 0, .int .u8 0, .int .u8 0] 5)) := PM.of q_
   have HBy := Hd (show Kp1 P R M tb v1 (w3.alloc (.cells #[.int .u8 0, .int .u8 0, .int .u8 0] 5)) w3.heap.size #[.int .u8 0, .int .u8 0, .int .u8 0] from ⟨Has.new w3 #[.int .u8 0, .int .u8 0, .int .u8 0] 5, S3.out.new (Nat.le_refl w3.heap.size)⟩)
   have LBy := Hd (show w0.heap.size ≤ w3.heap.size from M3.out.1.size)
   have nb1 : ¬ w3.heap.size = A := by have := KP.out.1.1; omega
   have nb2 : ¬ w3.heap.size = B_ := by have := KP.out.2.2.1.1; omega
   have nb3 : ¬ w3.heap.size = P := by have := S3.out.reg.1; omega
   clear q_; go_upto_region 29 with (fail); generalize w3.alloc (.cells #[.int .u8 0, .int .u8 0, .int .u8 0] 5) = w4 at s' m' HBy ⊢; generalize w3.heap.size = bb at HBy LBy nb1 nb2 nb3 ⊢; have NX := Hd (And.intro nb1 (And.intro nb2 nb3)); clear nb1 nb2 nb3; replace KP := Hd (KP.out.next m'); have M4 := M3.tr m'; clear hc hf; obtain ⟨hc, hf⟩ := s'.cm; have S4 := Hd s'; clear s' m'; go_wp2
   refine wp_loop_rounds 4 ?_
   have hby := HBy.out.1.2.1; rw [rounds_succ]; go_wp2_with fail; clear hby
   have zb : y3.m y3.s.r.pc = (b0 : Int) := by rw [show y3.m = y.m from by rw [Y3.out]; rw [Y2.out]; rfl, show y3.s.r.pc = y.s.r.pc from by rw [Y3.out]; rw [Y2.out]; rfl]; exact HBB.out.1
   have F := dof_p S4.out (by omega) y3.s.r.pc S4.out.pcb.1 S4.out.pcb.2; rw [zb] at F; have FH := Hd F; clear F zb
   with_reducible refine (FH.out).mono ?_
   rintro e w5 ⟨rfl, v5, s', m'⟩; replace KP := Hd (KP.out.next m'); replace HBy := Hd (HBy.out.next m'); have M5 := M4.tr m'; clear hc hf; obtain ⟨y5, Y5, S5, hc, hf⟩ := sx (rd 3 y3.s.r.pc y3) s'; clear s' m'; clear FH; have hby := HBy.out.1.2.1; have fby := HBy.out.1.2.2; obtain ⟨nx1, nx2, nx3⟩ := NX.out
   have nx3' : ¬ P = bb := fun e => nx3 e.symm
   have WR := Hd (word_r (y5.s.r.pc + 1) (up y5.s.r.pc) (by have := S5.out.pcb; omega) (by have := S5.out.pcb; omega) rfl); have pcb0 := S5.out.pcb.1; have pcb1 := S5.out.pcb.2; go_wp2_with fail
   with_reducible refine (WR.out _).mono ?_
   rintro e w_ ⟨rfl, rfl⟩; clear pcb0 pcb1
   have hO := Off.setCell (X := fun k => k = bb) w5 bb 0 (.int .u8 (b0 : Int)) rfl
   have s' := S5.out.keep hO (fun k hk e => HBy.out.2 (by rw [← show k = bb from e]; exact hk))
   have MM_ : PM P R M tb v w0 v5 (World.setCell w5 ⟨bb, 0, none⟩ (.int .u8 (b0 : Int))) := ⟨M5.out.1.trans hO (fun b hb e => absurd LBy.out (by have e' : b = bb := e; omega)), M5.out.2⟩
   have KP' := Hd (KP.out.off hO (fun e => nx1 (by rw [← show A = bb from e])) (fun e => nx2 (by rw [← show B_ = bb from e])))
   have hs3 := HBy.out.1.set 0 (.int .u8 (b0 : Int)) (by simp)
   have HBy' := Hd (show Kp1 P R M tb v5 (World.setCell w5 ⟨bb, 0, none⟩ (.int .u8 (b0 : Int))) bb #[.int .u8 (b0 : Int), .int .u8 0, .int .u8 0] from ⟨by simpa using hs3, HBy.out.2⟩)
   clear hs3 hO KP HBy hby fby nx1 nx2 nx3 nx3' WR; have KP := KP'; have HBy := HBy'; clear KP' HBy'
   skip
   generalize (World.setCell w5 ⟨bb, 0, none⟩ (.int .u8 (b0 : Int))) = w6 at s' MM_ KP HBy ⊢; have M6 := Hd MM_; clear hc hf MM_; obtain ⟨hc, hf⟩ := s'.cm; have S6 := Hd s'; clear s'; go_upto_region 35 with (fail); have q := S6.out.stPC (up y5.s.r.pc) (up_b _).1 (up_b _).2; have s' := q.1; have m' := q.2; clear q; generalize (World.setCell w6 ⟨P, 9, none⟩ (.int .u16 (up y5.s.r.pc))) = w7 at s' m' ⊢; replace KP := Hd (KP.out.next m'); replace HBy := Hd (HBy.out.next m'); have M7 := M6.tr m'; clear hc hf; obtain ⟨y7, Y7, S7, hc, hf⟩ := sx (setPC (up y5.s.r.pc) y5) s'; clear s' m'; obtain ⟨o0, ho0⟩ : ∃ q_, decF b0 0 0 = q_ := ⟨_, rfl⟩
   have hs0 : o0.s = 3 := by rw [← ho0, dec_sm b0 0 0 (by omega)]; exact hsz
   have DC := Hd (show ∀ W, Calls Tryz.prog 25 #[.int .u8 (b0 : Int), .int .u8 0, .int .u8 0] W (fun e w' => e = .returned (.agg #[.int .i64 o0.k, .int .i64 o0.x, .int .i64 o0.y, .int .i64 o0.s, .int .u16 o0.n]) ∧ Below W.heap.size W w') from fun W => rdec_c b0 0 0 (by omega) (by omega) (by omega) o0 ho0 W)
   clear ho0
   have hfd : ∀ w : World, (Instr.field 47 (.agg #[.int .i64 o0.k, .int .i64 o0.x, .int .i64 o0.y, .int .i64 3, .int .u16 o0.n]) 3).run Tryz.prog w = .ok (.int .i64 3) w := fun _ => by kernel_rfl
   have s' := S7.out.drew; have m' : PM P R M tb v5 w7 v5 (World.drew w7) := PM.drew P R M tb v5 w7; replace KP := Hd (KP.out.next m'); replace HBy := Hd (HBy.out.next m'); have S7' := Hd s'; have M7' := Hd (M7.out.trans m'); clear s' m' hc hf
   refine wp_region_held_drew (S := (fun w' => (∀ o, w'.cell? ⟨bb, o, none⟩ = (#[.int .u8 (b0 : Int), .int .u8 0, .int .u8 0] : Array Value)[o]?) ∧ True)) (by kernel_rfl) ⟨HBy.out.1.2.1, trivial⟩ (fun hHeld => ?_)
   generalize World.drew w7 = u7 at hHeld S7' M7' KP HBy ⊢; clear S7 M7; have S7 := S7'; have M7 := M7'; clear S7' M7'; refine tz 0 ?_; refine tz 1 ?_; refine tz 2 ?_; refine tz 3 ?_; refine tz 4 ?_; refine tz 5 ?_; refine tz 6 ?_; refine tz 7 ?_; refine tz 8 ?_
   refine re1 9 (fun K hK => ?_)
   go_simp
   go_wp2_with (go_at_call 25; (with_reducible refine (DC.out _).mono ?_); rintro e w8 ⟨rfl, hb⟩)
   have s' := S7.out.below hb; have m' : PM P R M tb v5 u7 v5 w8 := PM.of hb; clear hb; replace KP := Hd (KP.out.next m'); replace HBy := Hd (HBy.out.next m')
   refine hK.out _ _ ⟨HBy.out.1.2.1, trivial⟩ (fun hNew => ?_); clear hK K hHeld; have hHeld := hNew; clear hNew
   have M8 := M7.tr m'; have S8 := Hd s'; clear s' m'; refine tz 10 ?_; refine tz 11 ?_
   refine wpAnyH_done (by kernel_rfl) ?_ _
   obtain ⟨hc, hf⟩ := S8.out.cm; clear hHeld DC hfd; go_wp2; clear hs0; have hby := HBy.out.1.2.1; rw [rounds_succ]; go_wp2_with fail; clear hby
   have zb : y7.m y7.s.r.pc = (b1 : Int) := by rw [show y7.m = y.m from by rw [Y7.out]; rw [Y5.out]; rw [Y3.out]; rw [Y2.out]; rfl, show y7.s.r.pc = up y.s.r.pc from by rw [Y7.out]; rw [Y5.out]; rw [Y3.out]; rw [Y2.out]; rfl]; exact HBB.out.2.1
   have F := dof_p S8.out (by omega) y7.s.r.pc S8.out.pcb.1 S8.out.pcb.2; rw [zb] at F; have FH := Hd F; clear F zb
   with_reducible refine (FH.out).mono ?_
   rintro e w9 ⟨rfl, v9, s', m'⟩; replace KP := Hd (KP.out.next m'); replace HBy := Hd (HBy.out.next m'); have M9 := M8.tr m'; clear hc hf; obtain ⟨y9, Y9, S9, hc, hf⟩ := sx (rd 3 y7.s.r.pc y7) s'; clear s' m'; clear FH; have hby := HBy.out.1.2.1; have fby := HBy.out.1.2.2; obtain ⟨nx1, nx2, nx3⟩ := NX.out
   have nx3' : ¬ P = bb := fun e => nx3 e.symm
   have WR := Hd (word_r (y9.s.r.pc + 1) (up y9.s.r.pc) (by have := S9.out.pcb; omega) (by have := S9.out.pcb; omega) rfl); have pcb0 := S9.out.pcb.1; have pcb1 := S9.out.pcb.2; go_wp2_with fail
   with_reducible refine (WR.out _).mono ?_
   rintro e w_ ⟨rfl, rfl⟩; clear pcb0 pcb1
   have hO := Off.setCell (X := fun k => k = bb) w9 bb 1 (.int .u8 (b1 : Int)) rfl
   have s' := S9.out.keep hO (fun k hk e => HBy.out.2 (by rw [← show k = bb from e]; exact hk))
   have MM_ : PM P R M tb v w0 v9 (World.setCell w9 ⟨bb, 1, none⟩ (.int .u8 (b1 : Int))) := ⟨M9.out.1.trans hO (fun b hb e => absurd LBy.out (by have e' : b = bb := e; omega)), M9.out.2⟩
   have KP' := Hd (KP.out.off hO (fun e => nx1 (by rw [← show A = bb from e])) (fun e => nx2 (by rw [← show B_ = bb from e])))
   have hs3 := HBy.out.1.set 1 (.int .u8 (b1 : Int)) (by simp)
   have HBy' := Hd (show Kp1 P R M tb v9 (World.setCell w9 ⟨bb, 1, none⟩ (.int .u8 (b1 : Int))) bb #[.int .u8 (b0 : Int), .int .u8 (b1 : Int), .int .u8 0] from ⟨by simpa using hs3, HBy.out.2⟩)
   clear hs3 hO KP HBy hby fby nx1 nx2 nx3 nx3' WR; have KP := KP'; have HBy := HBy'; clear KP' HBy'
   skip
   generalize (World.setCell w9 ⟨bb, 1, none⟩ (.int .u8 (b1 : Int))) = w10 at s' MM_ KP HBy ⊢; have M10 := Hd MM_; clear hc hf MM_; obtain ⟨hc, hf⟩ := s'.cm; have S10 := Hd s'; clear s'; go_upto_region 35 with (fail); have q := S10.out.stPC (up y9.s.r.pc) (up_b _).1 (up_b _).2; have s' := q.1; have m' := q.2; clear q; generalize (World.setCell w10 ⟨P, 9, none⟩ (.int .u16 (up y9.s.r.pc))) = w11 at s' m' ⊢; replace KP := Hd (KP.out.next m'); replace HBy := Hd (HBy.out.next m'); have M11 := M10.tr m'; clear hc hf; obtain ⟨y11, Y11, S11, hc, hf⟩ := sx (setPC (up y9.s.r.pc) y9) s'; clear s' m'; obtain ⟨o1, ho1⟩ : ∃ q_, decF b0 b1 0 = q_ := ⟨_, rfl⟩
   have hs1 : o1.s = 3 := by rw [← ho1, dec_sm b0 b1 0 (by omega)]; exact hsz
   have DC := Hd (show ∀ W, Calls Tryz.prog 25 #[.int .u8 (b0 : Int), .int .u8 (b1 : Int), .int .u8 0] W (fun e w' => e = .returned (.agg #[.int .i64 o1.k, .int .i64 o1.x, .int .i64 o1.y, .int .i64 o1.s, .int .u16 o1.n]) ∧ Below W.heap.size W w') from fun W => rdec_c b0 b1 0 (by omega) (by omega) (by omega) o1 ho1 W)
   clear ho1
   have hfd : ∀ w : World, (Instr.field 47 (.agg #[.int .i64 o1.k, .int .i64 o1.x, .int .i64 o1.y, .int .i64 3, .int .u16 o1.n]) 3).run Tryz.prog w = .ok (.int .i64 3) w := fun _ => by kernel_rfl
   have s' := S11.out.drew; have m' : PM P R M tb v9 w11 v9 (World.drew w11) := PM.drew P R M tb v9 w11; replace KP := Hd (KP.out.next m'); replace HBy := Hd (HBy.out.next m'); have S11' := Hd s'; have M11' := Hd (M11.out.trans m'); clear s' m' hc hf
   refine wp_region_held_drew (S := (fun w' => (∀ o, w'.cell? ⟨bb, o, none⟩ = (#[.int .u8 (b0 : Int), .int .u8 (b1 : Int), .int .u8 0] : Array Value)[o]?) ∧ True)) (by kernel_rfl) ⟨HBy.out.1.2.1, trivial⟩ (fun hHeld => ?_)
   generalize World.drew w11 = u11 at hHeld S11' M11' KP HBy ⊢; clear S11 M11; have S11 := S11'; have M11 := M11'; clear S11' M11'; refine tz 0 ?_; refine tz 1 ?_; refine tz 2 ?_; refine tz 3 ?_; refine tz 4 ?_; refine tz 5 ?_; refine tz 6 ?_; refine tz 7 ?_; refine tz 8 ?_
   refine re1 9 (fun K hK => ?_)
   go_simp
   go_wp2_with (go_at_call 25; (with_reducible refine (DC.out _).mono ?_); rintro e w12 ⟨rfl, hb⟩)
   have s' := S11.out.below hb; have m' : PM P R M tb v9 u11 v9 w12 := PM.of hb; clear hb; replace KP := Hd (KP.out.next m'); replace HBy := Hd (HBy.out.next m')
   refine hK.out _ _ ⟨HBy.out.1.2.1, trivial⟩ (fun hNew => ?_); clear hK K hHeld; have hHeld := hNew; clear hNew
   have M12 := M11.tr m'; have S12 := Hd s'; clear s' m'; refine tz 10 ?_; refine tz 11 ?_
   refine wpAnyH_done (by kernel_rfl) ?_ _
   obtain ⟨hc, hf⟩ := S12.out.cm; clear hHeld DC hfd; go_wp2; clear hs1; have hby := HBy.out.1.2.1; rw [rounds_succ]; go_wp2_with fail; clear hby
   have zb : y11.m y11.s.r.pc = (b2 : Int) := by rw [show y11.m = y.m from by rw [Y11.out]; rw [Y9.out]; rw [Y7.out]; rw [Y5.out]; rw [Y3.out]; rw [Y2.out]; rfl, show y11.s.r.pc = up (up y.s.r.pc) from by rw [Y11.out]; rw [Y9.out]; rw [Y7.out]; rw [Y5.out]; rw [Y3.out]; rw [Y2.out]; rfl]; exact HBB.out.2.2.1
   have F := dof_p S12.out (by omega) y11.s.r.pc S12.out.pcb.1 S12.out.pcb.2; rw [zb] at F; have FH := Hd F; clear F zb
   with_reducible refine (FH.out).mono ?_
   rintro e w13 ⟨rfl, v13, s', m'⟩; replace KP := Hd (KP.out.next m'); replace HBy := Hd (HBy.out.next m'); have M13 := M12.tr m'; clear hc hf; obtain ⟨y13, Y13, S13, hc, hf⟩ := sx (rd 3 y11.s.r.pc y11) s'; clear s' m'; clear FH; have hby := HBy.out.1.2.1; have fby := HBy.out.1.2.2; obtain ⟨nx1, nx2, nx3⟩ := NX.out
   have nx3' : ¬ P = bb := fun e => nx3 e.symm
   have WR := Hd (word_r (y13.s.r.pc + 1) (up y13.s.r.pc) (by have := S13.out.pcb; omega) (by have := S13.out.pcb; omega) rfl); have pcb0 := S13.out.pcb.1; have pcb1 := S13.out.pcb.2; go_wp2_with fail
   with_reducible refine (WR.out _).mono ?_
   rintro e w_ ⟨rfl, rfl⟩; clear pcb0 pcb1
   have hO := Off.setCell (X := fun k => k = bb) w13 bb 2 (.int .u8 (b2 : Int)) rfl
   have s' := S13.out.keep hO (fun k hk e => HBy.out.2 (by rw [← show k = bb from e]; exact hk))
   have MM_ : PM P R M tb v w0 v13 (World.setCell w13 ⟨bb, 2, none⟩ (.int .u8 (b2 : Int))) := ⟨M13.out.1.trans hO (fun b hb e => absurd LBy.out (by have e' : b = bb := e; omega)), M13.out.2⟩
   have KP' := Hd (KP.out.off hO (fun e => nx1 (by rw [← show A = bb from e])) (fun e => nx2 (by rw [← show B_ = bb from e])))
   have hs3 := HBy.out.1.set 2 (.int .u8 (b2 : Int)) (by simp)
   have HBy' := Hd (show Kp1 P R M tb v13 (World.setCell w13 ⟨bb, 2, none⟩ (.int .u8 (b2 : Int))) bb #[.int .u8 (b0 : Int), .int .u8 (b1 : Int), .int .u8 (b2 : Int)] from ⟨by simpa using hs3, HBy.out.2⟩)
   clear hs3 hO KP HBy hby fby nx1 nx2 nx3 nx3' WR; have KP := KP'; have HBy := HBy'; clear KP' HBy'
   skip
   generalize (World.setCell w13 ⟨bb, 2, none⟩ (.int .u8 (b2 : Int))) = w14 at s' MM_ KP HBy ⊢; have M14 := Hd MM_; clear hc hf MM_; obtain ⟨hc, hf⟩ := s'.cm; have S14 := Hd s'; clear s'; go_upto_region 35 with (fail); have q := S14.out.stPC (up y13.s.r.pc) (up_b _).1 (up_b _).2; have s' := q.1; have m' := q.2; clear q; generalize (World.setCell w14 ⟨P, 9, none⟩ (.int .u16 (up y13.s.r.pc))) = w15 at s' m' ⊢; replace KP := Hd (KP.out.next m'); replace HBy := Hd (HBy.out.next m'); have M15 := M14.tr m'; clear hc hf; obtain ⟨y15, Y15, S15, hc, hf⟩ := sx (setPC (up y13.s.r.pc) y13) s'; clear s' m'; obtain ⟨o2, ho2⟩ : ∃ q_, decF b0 b1 b2 = q_ := ⟨_, rfl⟩
   have hs2 : o2.s = 3 := by rw [← ho2, dec_sm b0 b1 b2 (by omega)]; exact hsz
   have DC := Hd (show ∀ W, Calls Tryz.prog 25 #[.int .u8 (b0 : Int), .int .u8 (b1 : Int), .int .u8 (b2 : Int)] W (fun e w' => e = .returned (.agg #[.int .i64 o2.k, .int .i64 o2.x, .int .i64 o2.y, .int .i64 o2.s, .int .u16 o2.n]) ∧ Below W.heap.size W w') from fun W => rdec_c b0 b1 b2 (by omega) (by omega) (by omega) o2 ho2 W)
   clear ho2
   have hfd : ∀ w : World, (Instr.field 47 (.agg #[.int .i64 o2.k, .int .i64 o2.x, .int .i64 o2.y, .int .i64 3, .int .u16 o2.n]) 3).run Tryz.prog w = .ok (.int .i64 3) w := fun _ => by kernel_rfl
   have s' := S15.out.drew; have m' : PM P R M tb v13 w15 v13 (World.drew w15) := PM.drew P R M tb v13 w15; replace KP := Hd (KP.out.next m'); replace HBy := Hd (HBy.out.next m'); have S15' := Hd s'; have M15' := Hd (M15.out.trans m'); clear s' m' hc hf
   refine wp_region_held_drew (S := (fun w' => (∀ o, w'.cell? ⟨bb, o, none⟩ = (#[.int .u8 (b0 : Int), .int .u8 (b1 : Int), .int .u8 (b2 : Int)] : Array Value)[o]?) ∧ True)) (by kernel_rfl) ⟨HBy.out.1.2.1, trivial⟩ (fun hHeld => ?_)
   generalize World.drew w15 = u15 at hHeld S15' M15' KP HBy ⊢; clear S15 M15; have S15 := S15'; have M15 := M15'; clear S15' M15'; refine tz 0 ?_; refine tz 1 ?_; refine tz 2 ?_; refine tz 3 ?_; refine tz 4 ?_; refine tz 5 ?_; refine tz 6 ?_; refine tz 7 ?_; refine tz 8 ?_
   refine re1 9 (fun K hK => ?_)
   go_simp
   go_wp2_with (go_at_call 25; (with_reducible refine (DC.out _).mono ?_); rintro e w16 ⟨rfl, hb⟩)
   have s' := S15.out.below hb; have m' : PM P R M tb v13 u15 v13 w16 := PM.of hb; clear hb; replace KP := Hd (KP.out.next m'); replace HBy := Hd (HBy.out.next m')
   refine hK.out _ _ ⟨HBy.out.1.2.1, trivial⟩ (fun hNew => ?_); clear hK K hHeld; have hHeld := hNew; clear hNew
   have M16 := M15.tr m'; have S16 := Hd s'; clear s' m'; refine tz 10 ?_; refine tz 11 ?_
   refine wpAnyH_done (by kernel_rfl) ?_ _
   obtain ⟨hc, hf⟩ := S16.out.cm; clear hHeld DC hfd; go_wp2; clear hs2; rw [rounds_succ]; go_wp2_with fail
   have DC2 := Hd (show ∀ W, Calls Tryz.prog 25 #[.int .u8 (b0 : Int), .int .u8 (b1 : Int), .int .u8 (b2 : Int)] W (fun e w' => e = .returned (.agg #[.int .i64 o.k, .int .i64 o.x, .int .i64 o.y, .int .i64 o.s, .int .u16 o.n]) ∧ Below W.heap.size W w') from fun W => rdec_c b0 b1 b2 (by omega) (by omega) (by omega) o HO_.out W)
   have zm : y15.m = y.m := by rw [Y15.out]; rw [Y13.out]; rw [Y11.out]; rw [Y9.out]; rw [Y7.out]; rw [Y5.out]; rw [Y3.out]; rw [Y2.out]; rfl
   have zp : y15.s.r.pc = up (up (up y.s.r.pc)) := by rw [Y15.out]; rw [Y13.out]; rw [Y11.out]; rw [Y9.out]; rw [Y7.out]; rw [Y5.out]; rw [Y3.out]; rw [Y2.out]; rfl
   have ZP := Hd zp; clear zm zp; have s' := S16.out.drew; have m' : PM P R M tb v13 w16 v13 (World.drew w16) := PM.drew P R M tb v13 w16; replace KP := Hd (KP.out.next m'); replace HBy := Hd (HBy.out.next m'); have S16' := Hd s'; have M16' := Hd (M16.out.trans m'); clear s' m' hc hf
   refine wp_region_held_drew (S := (fun w' => (∀ o, w'.cell? ⟨bb, o, none⟩ = (#[.int .u8 (b0 : Int), .int .u8 (b1 : Int), .int .u8 (b2 : Int)] : Array Value)[o]?) ∧ True)) (by kernel_rfl) ⟨HBy.out.1.2.1, trivial⟩ (fun hHeld => ?_)
   generalize World.drew w16 = u16 at hHeld S16' M16' KP HBy ⊢; clear S16 M16; have S16 := S16'; have M16 := M16'; clear S16' M16'; refine tz 0 ?_; refine tz 1 ?_; refine tz 2 ?_; refine tz 3 ?_; refine tz 4 ?_; refine tz 5 ?_; refine tz 6 ?_; refine tz 7 ?_; refine tz 8 ?_
   refine wpAnyH_ready (rs := [9, 10]) (by kernel_rfl) (by simp) ?_
   refine (ac rfl (fun K hK => ?_) (ac rfl (fun K hK => ?_) AllReadyH.nil))
   ·skip
    go_simp
    go_wp2_with (go_at_call 25; (with_reducible refine (DC2.out _).mono ?_); rintro e w17 ⟨rfl, hb⟩)
    have s' := S16.out.below hb; have m' : PM P R M tb v13 u16 v13 w17 := PM.of hb; clear hb; replace KP := Hd (KP.out.next m'); replace HBy := Hd (HBy.out.next m')
    refine hK.out _ _ ⟨HBy.out.1.2.1, trivial⟩ (fun hNew => ?_); clear hK K hHeld; have hHeld := hNew; clear hNew
    have M17 := M16.tr m'; have S17 := Hd s'; clear s' m'
    refine re1 10 (fun K hK => ?_)
    go_simp; have q_ := own1 w17 (.cells #[.int .i64 0, .int .i64 0, .int .i64 0, .int .i64 0, .int .u16 0] 47); have s' := S17.out.below q_; have m' : PM P R M tb v13 w17 v13 (w17.alloc (.cells #[.int .i64 0, .int .i64 0, .int .i64 0, .int .i64 0, .int .u16 0] 47)) := PM.of q_
    have HOp := Hd (show Kp1 P R M tb v13 (w17.alloc (.cells #[.int .i64 0, .int .i64 0, .int .i64 0, .int .i64 0, .int .u16 0] 47)) w17.heap.size #[.int .i64 0, .int .i64 0, .int .i64 0, .int .i64 0, .int .u16 0] from ⟨Has.new w17 #[.int .i64 0, .int .i64 0, .int .i64 0, .int .i64 0, .int .u16 0] 47, S17.out.new (Nat.le_refl w17.heap.size)⟩)
    have LOp := Hd (show w0.heap.size ≤ w17.heap.size from M17.out.1.size)
    have NO5 := Hd (show A ≠ w17.heap.size ∧ B_ ≠ w17.heap.size ∧ bb ≠ w17.heap.size ∧ P ≠ w17.heap.size by have a1 := KP.out.1.1; have a2 := KP.out.2.2.1.1; have a3 := HBy.out.1.1; have a4 := S17.out.reg.1; omega)
    clear q_; replace KP := Hd (KP.out.next m'); replace HBy := Hd (HBy.out.next m')
    refine hK.out _ _ ⟨HBy.out.1.2.1, trivial⟩ (fun hNew => ?_); clear hK K hHeld; have hHeld := hNew; clear hNew
    generalize w17.alloc (.cells #[.int .i64 0, .int .i64 0, .int .i64 0, .int .i64 0, .int .u16 0] 47) = w18 at hHeld s' m' HOp KP HBy ⊢; generalize w17.heap.size = ob at HOp LOp NO5 ⊢; have M18 := M17.tr m'; have S18 := Hd s'; clear s' m'
    refine re1 11 (fun K hK => ?_)
    have cop := HOp.out.1.2.1; have fop := HOp.out.1.2.2; go_simp; clear cop fop
    have hO : Off (fun k => k = ob) w18 (World.setCell (World.setCell (World.setCell (World.setCell (World.setCell w18 ⟨ob, 0, none⟩ (.int .i64 o.k)) ⟨ob, 1, none⟩ (.int .i64 o.x)) ⟨ob, 2, none⟩ (.int .i64 o.y)) ⟨ob, 3, none⟩ (.int .i64 o.s)) ⟨ob, 4, none⟩ (.int .u16 o.n)) := (((((Off.refl (fun k => k = ob) w18).s rfl 0 _).s rfl 1 _).s rfl 2 _).s rfl 3 _).s rfl 4 _
    have s' := S18.out.keep hO (fun k hk e => HOp.out.2 (by rw [← show k = ob from e]; exact hk))
    have MM_ : PM P R M tb v w0 v13 (World.setCell (World.setCell (World.setCell (World.setCell (World.setCell w18 ⟨ob, 0, none⟩ (.int .i64 o.k)) ⟨ob, 1, none⟩ (.int .i64 o.x)) ⟨ob, 2, none⟩ (.int .i64 o.y)) ⟨ob, 3, none⟩ (.int .i64 o.s)) ⟨ob, 4, none⟩ (.int .u16 o.n)) := ⟨M18.out.1.trans hO (fun b hb e => absurd LOp.out (by have e' : b = ob := e; omega)), M18.out.2⟩
    have KP' := Hd (KP.out.off hO (fun e => NO5.out.1 e) (fun e => NO5.out.2.1 e))
    have HBy' := Hd (HBy.out.off hO (fun e => NO5.out.2.2.1 e))
    have hs5 := (((((HOp.out.1.set 0 (.int .i64 o.k) (by simp)).set 1 (.int .i64 o.x) (by simp)).set 2 (.int .i64 o.y) (by simp)).set 3 (.int .i64 o.s) (by simp)).set 4 (.int .u16 o.n) (by simp))
    have HOp' := Hd (show Kp1 P R M tb v13 (World.setCell (World.setCell (World.setCell (World.setCell (World.setCell w18 ⟨ob, 0, none⟩ (.int .i64 o.k)) ⟨ob, 1, none⟩ (.int .i64 o.x)) ⟨ob, 2, none⟩ (.int .i64 o.y)) ⟨ob, 3, none⟩ (.int .i64 o.s)) ⟨ob, 4, none⟩ (.int .u16 o.n)) ob #[.int .i64 o.k, .int .i64 o.x, .int .i64 o.y, .int .i64 o.s, .int .u16 o.n] from ⟨by simpa using hs5, HOp.out.2⟩)
    clear hs5 hO KP HBy HOp; have KP := KP'; have HBy := HBy'; have HOp := HOp'; clear KP' HBy' HOp'
    refine hK.out _ _ ⟨HBy.out.1.2.1, trivial⟩ (fun hNew => ?_); clear hK K hHeld; have hHeld := hNew; clear hNew
    generalize (World.setCell (World.setCell (World.setCell (World.setCell (World.setCell w18 ⟨ob, 0, none⟩ (.int .i64 o.k)) ⟨ob, 1, none⟩ (.int .i64 o.x)) ⟨ob, 2, none⟩ (.int .i64 o.y)) ⟨ob, 3, none⟩ (.int .i64 o.s)) ⟨ob, 4, none⟩ (.int .u16 o.n)) = w19 at hHeld s' MM_ KP HBy HOp ⊢; have M19 := Hd MM_; have S19 := Hd s'; clear s' MM_
    refine wpAnyH_done (by kernel_rfl) ?_ _
    obtain ⟨hc, hf⟩ := S19.out.cm; clear hHeld DC2
    have GO : Good o := by rw [← HO_.out]; exact good_dec b0 b1 b2 (by omega) (by omega) (by omega)
    have OSZ := Hd (show o.s = 3 by rw [← HO_.out, dec_sm b0 b1 b2 (by omega)]; exact hsz)
    have hat : o.k = 4 → y.s.r.pc = dn y15.s.r.pc := fun h4 => by have e1 := GO.bad h4; have osz := OSZ.out; omega
    have DN := Hd (mdone_p S19.out (by omega) o GO y.s.r.pc hat); clear hat
    have ym : y15 = fetchN 3 (setSoon false (setHalt false y)) := by rw [Y15.out, Y13.out, Y11.out, Y9.out, Y7.out, Y5.out, Y3.out, Y2.out]; first | done | rfl
    have YM := Hd ym; clear ym; have ht := HT.out; rw [← YM.out] at ht; rw [ht] at DN; clear ht; have hop := HOp.out.1.2.1; go_wp2_with fail; clear hop
    with_reducible refine (DN.out).mono ?_
    rintro e w20 ⟨rfl, v20, s', m'⟩; replace KP := Hd (KP.out.next m'); replace HBy := Hd (HBy.out.next m'); replace HOp := Hd (HOp.out.next m'); have M20 := M19.tr m'; clear hc hf; obtain ⟨y20, Y20, S20, hc, hf⟩ := sx (doneS o t y15) s'; clear s' m'; clear DN; obtain ⟨sv, hsv⟩ : ∃ q_, q_ = y2.s.soon := ⟨_, rfl⟩; rw [← hsv]
    have SV := Hd (show sv = y.s.soon by have e := hsv; rw [Y2.out] at e; exact e)
    clear hsv
    cases sv
    ·skip
     skip
     have hop := HOp.out.1.2.1; have fop := HOp.out.1.2.2; obtain ⟨nAP, nBP, nAB, nBA, nPA, nPB⟩ := H1_.out; obtain ⟨nAo, nBo, nbo, nPo⟩ := NO5.out; obtain ⟨⟨_, ca, fa⟩, NA, ⟨_, cd, fd⟩, ND⟩ := KP.out; have SM := Hd (S20.out.mono (n' := n + 12) (by omega))
     have YF := Hd (show y20 = mrun 3 o t y from by rw [mrun_f 3 o t SV.out.symm, ← YM.out, Y20.out]; first | done | rfl)
     go_upto_region 40 with (fail)
     go_region
     all_goals
      go_wp2
      refine bodyPost_ret (v := .tuple #[.agg y20.s.cells, .agg (didC ⟨1, 0, y.s.r.pc, ⟨o.k, o.x, o.y, o.s, o.n⟩, t⟩)]) ?_ rfl ⟨?_, ?_⟩
      ·simp [results, Tryz.results15, go_sem, St.cells, didC, ca, cd]
      ·rw [← YF.out]
       first | done | rfl
      ·rw [← YF.out]
       exact mstep_end SM.out M20.out B0.out LP.out LA.out LB.out NA ND off23.drew
    ·by_cases hk5 : o.k = 5
     ·have hkb : (o.k != 5) = false := by rw [hk5]; rfl
      have HK5 := Hd hk5; clear hk5; have hop := HOp.out.1.2.1; have fop := HOp.out.1.2.2; obtain ⟨nAP, nBP, nAB, nBA, nPA, nPB⟩ := H1_.out; obtain ⟨nAo, nBo, nbo, nPo⟩ := NO5.out; obtain ⟨⟨_, ca, fa⟩, NA, ⟨_, cd, fd⟩, ND⟩ := KP.out; have SM := Hd (S20.out.mono (n' := n + 12) (by omega))
      have YF := Hd (show y20 = mrun 3 o t y from by rw [mrun_5 3 o t SV.out.symm HK5.out, ← YM.out, Y20.out]; first | done | rfl)
      go_upto_region 40 with (fail)
      go_region
      all_goals
       go_wp2
       refine bodyPost_ret (v := .tuple #[.agg y20.s.cells, .agg (didC ⟨1, 0, y.s.r.pc, ⟨o.k, o.x, o.y, o.s, o.n⟩, t⟩)]) ?_ rfl ⟨?_, ?_⟩
       ·simp [results, Tryz.results15, go_sem, St.cells, didC, ca, cd]
       ·rw [← YF.out]
        first | done | rfl
       ·rw [← YF.out]
        exact mstep_end SM.out M20.out B0.out LP.out LA.out LB.out NA ND off23.drew
     ·have hkb : (o.k != 5) = true := by rw [bne, beq_eq_false_iff_ne.mpr hk5]; rfl
      have HK5 := Hd hk5; clear hk5; have hop := HOp.out.1.2.1; go_upto_region 40 with (fail); clear hop hkb; have q := S20.out.stIme true; have s' := q.1; have m' := q.2; clear q; generalize (World.setCell w20 ⟨P, 10, none⟩ (.bool true)) = w21 at s' m' ⊢; replace KP := Hd (KP.out.next m'); replace HBy := Hd (HBy.out.next m'); replace HOp := Hd (HOp.out.next m'); have M21 := M20.tr m'; clear hc hf; obtain ⟨y21, Y21, S21, hc, hf⟩ := sx (setIme true y20) s'; clear s' m'; have hop := HOp.out.1.2.1; have fop := HOp.out.1.2.2; obtain ⟨nAP, nBP, nAB, nBA, nPA, nPB⟩ := H1_.out; obtain ⟨nAo, nBo, nbo, nPo⟩ := NO5.out; obtain ⟨⟨_, ca, fa⟩, NA, ⟨_, cd, fd⟩, ND⟩ := KP.out; have SM := Hd (S21.out.mono (n' := n + 12) (by omega))
      have YF := Hd (show y21 = mrun 3 o t y from by rw [mrun_t 3 o t SV.out.symm HK5.out, ← YM.out, Y21.out, Y20.out]; first | done | rfl)
      go_region
      all_goals
       go_wp2
       refine bodyPost_ret (v := .tuple #[.agg y21.s.cells, .agg (didC ⟨1, 0, y.s.r.pc, ⟨o.k, o.x, o.y, o.s, o.n⟩, t⟩)]) ?_ rfl ⟨?_, ?_⟩
       ·simp [results, Tryz.results15, go_sem, St.cells, didC, ca, cd]
       ·rw [← YF.out]
        first | done | rfl
       ·rw [← YF.out]
        exact mstep_end SM.out M21.out B0.out LP.out LA.out LB.out NA ND off23.drew
   ·skip
    go_simp; have q_ := own1 u16 (.cells #[.int .i64 0, .int .i64 0, .int .i64 0, .int .i64 0, .int .u16 0] 47); have s' := S16.out.below q_; have m' : PM P R M tb v13 u16 v13 (u16.alloc (.cells #[.int .i64 0, .int .i64 0, .int .i64 0, .int .i64 0, .int .u16 0] 47)) := PM.of q_
    have HOp := Hd (show Kp1 P R M tb v13 (u16.alloc (.cells #[.int .i64 0, .int .i64 0, .int .i64 0, .int .i64 0, .int .u16 0] 47)) u16.heap.size #[.int .i64 0, .int .i64 0, .int .i64 0, .int .i64 0, .int .u16 0] from ⟨Has.new u16 #[.int .i64 0, .int .i64 0, .int .i64 0, .int .i64 0, .int .u16 0] 47, S16.out.new (Nat.le_refl u16.heap.size)⟩)
    have LOp := Hd (show w0.heap.size ≤ u16.heap.size from M16.out.1.size)
    have NO5 := Hd (show A ≠ u16.heap.size ∧ B_ ≠ u16.heap.size ∧ bb ≠ u16.heap.size ∧ P ≠ u16.heap.size by have a1 := KP.out.1.1; have a2 := KP.out.2.2.1.1; have a3 := HBy.out.1.1; have a4 := S16.out.reg.1; omega)
    clear q_; replace KP := Hd (KP.out.next m'); replace HBy := Hd (HBy.out.next m')
    refine hK.out _ _ ⟨HBy.out.1.2.1, trivial⟩ (fun hNew => ?_); clear hK K hHeld; have hHeld := hNew; clear hNew
    generalize u16.alloc (.cells #[.int .i64 0, .int .i64 0, .int .i64 0, .int .i64 0, .int .u16 0] 47) = w17 at hHeld s' m' HOp KP HBy ⊢; generalize u16.heap.size = ob at HOp LOp NO5 ⊢; have M17 := M16.tr m'; have S17 := Hd s'; clear s' m'
    refine re1 9 (fun K hK => ?_)
    go_simp
    go_wp2_with (go_at_call 25; (with_reducible refine (DC2.out _).mono ?_); rintro e w18 ⟨rfl, hb⟩)
    have s' := S17.out.below hb; have m' : PM P R M tb v13 w17 v13 w18 := PM.of hb; clear hb; replace KP := Hd (KP.out.next m'); replace HBy := Hd (HBy.out.next m'); replace HOp := Hd (HOp.out.next m')
    refine hK.out _ _ ⟨HBy.out.1.2.1, trivial⟩ (fun hNew => ?_); clear hK K hHeld; have hHeld := hNew; clear hNew
    have M18 := M17.tr m'; have S18 := Hd s'; clear s' m'
    refine re1 11 (fun K hK => ?_)
    have cop := HOp.out.1.2.1; have fop := HOp.out.1.2.2; go_simp; clear cop fop
    have hO : Off (fun k => k = ob) w18 (World.setCell (World.setCell (World.setCell (World.setCell (World.setCell w18 ⟨ob, 0, none⟩ (.int .i64 o.k)) ⟨ob, 1, none⟩ (.int .i64 o.x)) ⟨ob, 2, none⟩ (.int .i64 o.y)) ⟨ob, 3, none⟩ (.int .i64 o.s)) ⟨ob, 4, none⟩ (.int .u16 o.n)) := (((((Off.refl (fun k => k = ob) w18).s rfl 0 _).s rfl 1 _).s rfl 2 _).s rfl 3 _).s rfl 4 _
    have s' := S18.out.keep hO (fun k hk e => HOp.out.2 (by rw [← show k = ob from e]; exact hk))
    have MM_ : PM P R M tb v w0 v13 (World.setCell (World.setCell (World.setCell (World.setCell (World.setCell w18 ⟨ob, 0, none⟩ (.int .i64 o.k)) ⟨ob, 1, none⟩ (.int .i64 o.x)) ⟨ob, 2, none⟩ (.int .i64 o.y)) ⟨ob, 3, none⟩ (.int .i64 o.s)) ⟨ob, 4, none⟩ (.int .u16 o.n)) := ⟨M18.out.1.trans hO (fun b hb e => absurd LOp.out (by have e' : b = ob := e; omega)), M18.out.2⟩
    have KP' := Hd (KP.out.off hO (fun e => NO5.out.1 e) (fun e => NO5.out.2.1 e))
    have HBy' := Hd (HBy.out.off hO (fun e => NO5.out.2.2.1 e))
    have hs5 := (((((HOp.out.1.set 0 (.int .i64 o.k) (by simp)).set 1 (.int .i64 o.x) (by simp)).set 2 (.int .i64 o.y) (by simp)).set 3 (.int .i64 o.s) (by simp)).set 4 (.int .u16 o.n) (by simp))
    have HOp' := Hd (show Kp1 P R M tb v13 (World.setCell (World.setCell (World.setCell (World.setCell (World.setCell w18 ⟨ob, 0, none⟩ (.int .i64 o.k)) ⟨ob, 1, none⟩ (.int .i64 o.x)) ⟨ob, 2, none⟩ (.int .i64 o.y)) ⟨ob, 3, none⟩ (.int .i64 o.s)) ⟨ob, 4, none⟩ (.int .u16 o.n)) ob #[.int .i64 o.k, .int .i64 o.x, .int .i64 o.y, .int .i64 o.s, .int .u16 o.n] from ⟨by simpa using hs5, HOp.out.2⟩)
    clear hs5 hO KP HBy HOp; have KP := KP'; have HBy := HBy'; have HOp := HOp'; clear KP' HBy' HOp'
    refine hK.out _ _ ⟨HBy.out.1.2.1, trivial⟩ (fun hNew => ?_); clear hK K hHeld; have hHeld := hNew; clear hNew
    generalize (World.setCell (World.setCell (World.setCell (World.setCell (World.setCell w18 ⟨ob, 0, none⟩ (.int .i64 o.k)) ⟨ob, 1, none⟩ (.int .i64 o.x)) ⟨ob, 2, none⟩ (.int .i64 o.y)) ⟨ob, 3, none⟩ (.int .i64 o.s)) ⟨ob, 4, none⟩ (.int .u16 o.n)) = w19 at hHeld s' MM_ KP HBy HOp ⊢; have M19 := Hd MM_; have S19 := Hd s'; clear s' MM_
    refine wpAnyH_done (by kernel_rfl) ?_ _
    obtain ⟨hc, hf⟩ := S19.out.cm; clear hHeld DC2
    have GO : Good o := by rw [← HO_.out]; exact good_dec b0 b1 b2 (by omega) (by omega) (by omega)
    have OSZ := Hd (show o.s = 3 by rw [← HO_.out, dec_sm b0 b1 b2 (by omega)]; exact hsz)
    have hat : o.k = 4 → y.s.r.pc = dn y15.s.r.pc := fun h4 => by have e1 := GO.bad h4; have osz := OSZ.out; omega
    have DN := Hd (mdone_p S19.out (by omega) o GO y.s.r.pc hat); clear hat
    have ym : y15 = fetchN 3 (setSoon false (setHalt false y)) := by rw [Y15.out, Y13.out, Y11.out, Y9.out, Y7.out, Y5.out, Y3.out, Y2.out]; first | done | rfl
    have YM := Hd ym; clear ym; have ht := HT.out; rw [← YM.out] at ht; rw [ht] at DN; clear ht; have hop := HOp.out.1.2.1; go_wp2_with fail; clear hop
    with_reducible refine (DN.out).mono ?_
    rintro e w20 ⟨rfl, v20, s', m'⟩; replace KP := Hd (KP.out.next m'); replace HBy := Hd (HBy.out.next m'); replace HOp := Hd (HOp.out.next m'); have M20 := M19.tr m'; clear hc hf; obtain ⟨y20, Y20, S20, hc, hf⟩ := sx (doneS o t y15) s'; clear s' m'; clear DN; obtain ⟨sv, hsv⟩ : ∃ q_, q_ = y2.s.soon := ⟨_, rfl⟩; rw [← hsv]
    have SV := Hd (show sv = y.s.soon by have e := hsv; rw [Y2.out] at e; exact e)
    clear hsv
    cases sv
    ·skip
     skip
     have hop := HOp.out.1.2.1; have fop := HOp.out.1.2.2; obtain ⟨nAP, nBP, nAB, nBA, nPA, nPB⟩ := H1_.out; obtain ⟨nAo, nBo, nbo, nPo⟩ := NO5.out; obtain ⟨⟨_, ca, fa⟩, NA, ⟨_, cd, fd⟩, ND⟩ := KP.out; have SM := Hd (S20.out.mono (n' := n + 12) (by omega))
     have YF := Hd (show y20 = mrun 3 o t y from by rw [mrun_f 3 o t SV.out.symm, ← YM.out, Y20.out]; first | done | rfl)
     go_upto_region 40 with (fail)
     go_region
     all_goals
      go_wp2
      refine bodyPost_ret (v := .tuple #[.agg y20.s.cells, .agg (didC ⟨1, 0, y.s.r.pc, ⟨o.k, o.x, o.y, o.s, o.n⟩, t⟩)]) ?_ rfl ⟨?_, ?_⟩
      ·simp [results, Tryz.results15, go_sem, St.cells, didC, ca, cd]
      ·rw [← YF.out]
       first | done | rfl
      ·rw [← YF.out]
       exact mstep_end SM.out M20.out B0.out LP.out LA.out LB.out NA ND off23.drew
    ·by_cases hk5 : o.k = 5
     ·have hkb : (o.k != 5) = false := by rw [hk5]; rfl
      have HK5 := Hd hk5; clear hk5; have hop := HOp.out.1.2.1; have fop := HOp.out.1.2.2; obtain ⟨nAP, nBP, nAB, nBA, nPA, nPB⟩ := H1_.out; obtain ⟨nAo, nBo, nbo, nPo⟩ := NO5.out; obtain ⟨⟨_, ca, fa⟩, NA, ⟨_, cd, fd⟩, ND⟩ := KP.out; have SM := Hd (S20.out.mono (n' := n + 12) (by omega))
      have YF := Hd (show y20 = mrun 3 o t y from by rw [mrun_5 3 o t SV.out.symm HK5.out, ← YM.out, Y20.out]; first | done | rfl)
      go_upto_region 40 with (fail)
      go_region
      all_goals
       go_wp2
       refine bodyPost_ret (v := .tuple #[.agg y20.s.cells, .agg (didC ⟨1, 0, y.s.r.pc, ⟨o.k, o.x, o.y, o.s, o.n⟩, t⟩)]) ?_ rfl ⟨?_, ?_⟩
       ·simp [results, Tryz.results15, go_sem, St.cells, didC, ca, cd]
       ·rw [← YF.out]
        first | done | rfl
       ·rw [← YF.out]
        exact mstep_end SM.out M20.out B0.out LP.out LA.out LB.out NA ND off23.drew
     ·have hkb : (o.k != 5) = true := by rw [bne, beq_eq_false_iff_ne.mpr hk5]; rfl
      have HK5 := Hd hk5; clear hk5; have hop := HOp.out.1.2.1; go_upto_region 40 with (fail); clear hop hkb; have q := S20.out.stIme true; have s' := q.1; have m' := q.2; clear q; generalize (World.setCell w20 ⟨P, 10, none⟩ (.bool true)) = w21 at s' m' ⊢; replace KP := Hd (KP.out.next m'); replace HBy := Hd (HBy.out.next m'); replace HOp := Hd (HOp.out.next m'); have M21 := M20.tr m'; clear hc hf; obtain ⟨y21, Y21, S21, hc, hf⟩ := sx (setIme true y20) s'; clear s' m'; have hop := HOp.out.1.2.1; have fop := HOp.out.1.2.2; obtain ⟨nAP, nBP, nAB, nBA, nPA, nPB⟩ := H1_.out; obtain ⟨nAo, nBo, nbo, nPo⟩ := NO5.out; obtain ⟨⟨_, ca, fa⟩, NA, ⟨_, cd, fd⟩, ND⟩ := KP.out; have SM := Hd (S21.out.mono (n' := n + 12) (by omega))
      have YF := Hd (show y21 = mrun 3 o t y from by rw [mrun_t 3 o t SV.out.symm HK5.out, ← YM.out, Y21.out, Y20.out]; first | done | rfl)
      go_region
      all_goals
       go_wp2
       refine bodyPost_ret (v := .tuple #[.agg y21.s.cells, .agg (didC ⟨1, 0, y.s.r.pc, ⟨o.k, o.x, o.y, o.s, o.n⟩, t⟩)]) ?_ rfl ⟨?_, ?_⟩
       ·simp [results, Tryz.results15, go_sem, St.cells, didC, ca, cd]
       ·rw [← YF.out]
        first | done | rfl
       ·rw [← YF.out]
        exact mstep_end SM.out M21.out B0.out LP.out LA.out LB.out NA ND off23.drew
end
end Go.Proofs.YtngdogldgcgnjaaGreat
