/-
  What words does: for every world; the processor is there.
-/
import Derived.Test.YtngdogldgcgnjaaGreatZ11
set_option maxRecDepth 100000
set_option maxHeartbeats 8000000
namespace Go.Proofs.YtngdogldgcgnjaaGreat
open Go.ChangeShapes Go.WideShapes Go.ChangeAt Go.RowKit
open Reg
set_option linter.unusedVariables false
section
variable {w : World} {P R M tb n : Nat} {v : Value} {y : Sy}
theorem words_14 (h0 : Sys procD ramC w P R M tb v y n) (hn : n < 970000) (x z s nn : Int) : Calls Tryz.prog 96 #[.pointer (some ⟨P, 0, none⟩), .agg #[.int .i64 14, .int .i64 x, .int .i64 z, .int .i64 s, .int .u16 nn]] w (PE procD ramC P R M tb v w (.tuple #[]) (pairS x (up (pairV y.s.r x)) (idle y)) (n + 1)) := by
 have hm := mI ⟨R, 0, none⟩; obtain ⟨S0, M0, HO, NO⟩ := h0.beg #[.int .i64 14, .int .i64 x, .int .i64 z, .int .i64 s, .int .u16 nn] 44; obtain ⟨hc, hf⟩ := S0.out.cp; clear h0; go_enter Tryz.func96, Tryz.ntmps96; go_wp2_with fail; generalize w.alloc (.cells #[.int .i64 14, .int .i64 x, .int .i64 z, .int .i64 s, .int .u16 nn] 44) = w0 at S0 M0 HO hc hf ⊢; generalize w.heap.size = ob at HO NO ⊢; have ho := HO.out.2.1
 with_reducible refine (idle_p S0.out (by omega)).mono ?_
 rintro e w1 ⟨rfl, v1, s', m'⟩; replace HO := m'.two HO NO; clear ho NO; obtain ⟨HO, NO⟩ := HO; have ho := HO.out.2.1; have M1 := M0.tr m'; obtain ⟨y1, hy⟩ : ∃ q_, q_ = idle y := ⟨_, rfl⟩; rw [← hy] at s'; have Y1 := Lib.hid hy; clear hc hf; obtain ⟨hc, hf⟩ := s'.cp; have S1 := Lib.hid s'; clear s' m' hy; have hw := up_w (pairV y1.s.r x); go_wp2; replace S1 := Lib.hid S1.out.drew; replace M1 := Lib.hid (M1.out.trans (PM.drew P R M tb v1 w1)); replace HO := Lib.hid HO.out.drew; clear ho hc hf
 refine rh HO (fun hHeld => ?_)
 generalize World.drew w1 = u1 at hHeld S1 M1 HO ⊢; refine tz 0 ?_; refine tz 1 ?_; refine tz 2 ?_; refine tz 3 ?_; refine tz 4 ?_; refine tz 5 ?_
 refine re1 6 (fun K hK => ?_)
 go_simp
 go_wp2_with (go_at_call 76; (with_reducible refine (pair_p S1.out (by omega) x).mono ?_); rintro e w2 ⟨rfl, v2, s', m'⟩)
 replace HO := m'.two HO NO; clear NO; obtain ⟨HO, NO⟩ := HO
 refine hK.out _ _ ⟨HO.out.2.1, trivial⟩ (fun hNew => ?_); clear hK K hHeld; have hHeld := hNew; clear hNew
 have M2 := M1.tr m'; obtain ⟨y2, hy⟩ : ∃ q_, q_ = y1 := ⟨_, rfl⟩; rw [← hy] at s'; have Y2 := Lib.hid hy; have S2 := Lib.hid s'; clear s' m' hy; refine tz 7 ?_
 refine re1 8 (fun K hK => ?_)
 go_simp
 go_wp2_with (go_at_call 78; (with_reducible refine (setPair_p S2.out (by omega) x (up (pairV y1.s.r x)) (up_b _).1 (up_b _).2).mono ?_); rintro e w3 ⟨rfl, v3, s', m'⟩)
 replace HO := m'.two HO NO; clear NO; obtain ⟨HO, NO⟩ := HO
 refine hK.out _ _ ⟨HO.out.2.1, trivial⟩ (fun hNew => ?_); clear hK K hHeld; have hHeld := hNew; clear hNew
 have M3 := M2.tr m'; obtain ⟨y3, hy⟩ : ∃ q_, q_ = pairS x (up (pairV y1.s.r x)) y2 := ⟨_, rfl⟩; rw [← hy] at s'; have Y3 := Lib.hid hy; have S3 := Lib.hid s'; clear s' m' hy
 refine wpAnyH_done (by kernel_rfl) ?_ _
 obtain ⟨hc, hf⟩ := S3.out.cp; have ho := HO.out.2.1; go_wp2
 go_end0
 refine ⟨rfl, v3, ?_, M3.out⟩
 have q := S3.out; have e := Y3.out.symm; subst e; have e := Y2.out.symm; subst e; have e := Y1.out.symm; subst e
 exact q.mo
theorem words_15 (h0 : Sys procD ramC w P R M tb v y n) (hn : n < 970000) (x z s nn : Int) : Calls Tryz.prog 96 #[.pointer (some ⟨P, 0, none⟩), .agg #[.int .i64 15, .int .i64 x, .int .i64 z, .int .i64 s, .int .u16 nn]] w (PE procD ramC P R M tb v w (.tuple #[]) (pairS x (dn (pairV y.s.r x)) (idle y)) (n + 1)) := by
 have hm := mI ⟨R, 0, none⟩; obtain ⟨S0, M0, HO, NO⟩ := h0.beg #[.int .i64 15, .int .i64 x, .int .i64 z, .int .i64 s, .int .u16 nn] 44; obtain ⟨hc, hf⟩ := S0.out.cp; clear h0; go_enter Tryz.func96, Tryz.ntmps96; go_wp2_with fail; generalize w.alloc (.cells #[.int .i64 15, .int .i64 x, .int .i64 z, .int .i64 s, .int .u16 nn] 44) = w0 at S0 M0 HO hc hf ⊢; generalize w.heap.size = ob at HO NO ⊢; have ho := HO.out.2.1
 with_reducible refine (idle_p S0.out (by omega)).mono ?_
 rintro e w1 ⟨rfl, v1, s', m'⟩; replace HO := m'.two HO NO; clear ho NO; obtain ⟨HO, NO⟩ := HO; have ho := HO.out.2.1; have M1 := M0.tr m'; obtain ⟨y1, hy⟩ : ∃ q_, q_ = idle y := ⟨_, rfl⟩; rw [← hy] at s'; have Y1 := Lib.hid hy; clear hc hf; obtain ⟨hc, hf⟩ := s'.cp; have S1 := Lib.hid s'; clear s' m' hy; have hw := dn_w (pairV y1.s.r x); go_wp2; replace S1 := Lib.hid S1.out.drew; replace M1 := Lib.hid (M1.out.trans (PM.drew P R M tb v1 w1)); replace HO := Lib.hid HO.out.drew; clear ho hc hf
 refine rh HO (fun hHeld => ?_)
 generalize World.drew w1 = u1 at hHeld S1 M1 HO ⊢; refine tz 0 ?_; refine tz 1 ?_; refine tz 2 ?_; refine tz 3 ?_; refine tz 4 ?_; refine tz 5 ?_
 refine re1 6 (fun K hK => ?_)
 go_simp
 go_wp2_with (go_at_call 76; (with_reducible refine (pair_p S1.out (by omega) x).mono ?_); rintro e w2 ⟨rfl, v2, s', m'⟩)
 replace HO := m'.two HO NO; clear NO; obtain ⟨HO, NO⟩ := HO
 refine hK.out _ _ ⟨HO.out.2.1, trivial⟩ (fun hNew => ?_); clear hK K hHeld; have hHeld := hNew; clear hNew
 have M2 := M1.tr m'; obtain ⟨y2, hy⟩ : ∃ q_, q_ = y1 := ⟨_, rfl⟩; rw [← hy] at s'; have Y2 := Lib.hid hy; have S2 := Lib.hid s'; clear s' m' hy; refine tz 7 ?_
 refine re1 8 (fun K hK => ?_)
 go_simp
 go_wp2_with (go_at_call 78; (with_reducible refine (setPair_p S2.out (by omega) x (dn (pairV y1.s.r x)) (dn_b _).1 (dn_b _).2).mono ?_); rintro e w3 ⟨rfl, v3, s', m'⟩)
 replace HO := m'.two HO NO; clear NO; obtain ⟨HO, NO⟩ := HO
 refine hK.out _ _ ⟨HO.out.2.1, trivial⟩ (fun hNew => ?_); clear hK K hHeld; have hHeld := hNew; clear hNew
 have M3 := M2.tr m'; obtain ⟨y3, hy⟩ : ∃ q_, q_ = pairS x (dn (pairV y1.s.r x)) y2 := ⟨_, rfl⟩; rw [← hy] at s'; have Y3 := Lib.hid hy; have S3 := Lib.hid s'; clear s' m' hy
 refine wpAnyH_done (by kernel_rfl) ?_ _
 obtain ⟨hc, hf⟩ := S3.out.cp; have ho := HO.out.2.1; go_wp2
 go_end0
 refine ⟨rfl, v3, ?_, M3.out⟩
 have q := S3.out; have e := Y3.out.symm; subst e; have e := Y2.out.symm; subst e; have e := Y1.out.symm; subst e
 exact q.mo
theorem words_16 (h0 : Sys procD ramC w P R M tb v y n) (hn : n < 970000) (x z s nn : Int) : Calls Tryz.prog 96 #[.pointer (some ⟨P, 0, none⟩), .agg #[.int .i64 16, .int .i64 x, .int .i64 z, .int .i64 s, .int .u16 nn]] w (PE procD ramC P R M tb v w (.tuple #[]) (setF (Alu.add16F (hlV y) (pairV y.s.r x) y.s.r.f) (pairS 2 ((hlV y + pairV y.s.r x) % 65536) (idle y))) (n + 1)) := by
 have hm := mI ⟨R, 0, none⟩; obtain ⟨S0, M0, HO, NO⟩ := h0.beg #[.int .i64 16, .int .i64 x, .int .i64 z, .int .i64 s, .int .u16 nn] 44; obtain ⟨hc, hf⟩ := S0.out.cp; clear h0; go_enter Tryz.func96, Tryz.ntmps96; go_wp2_with fail; generalize w.alloc (.cells #[.int .i64 16, .int .i64 x, .int .i64 z, .int .i64 s, .int .u16 nn] 44) = w0 at S0 M0 HO hc hf ⊢; generalize w.heap.size = ob at HO NO ⊢; have ho := HO.out.2.1
 with_reducible refine (idle_p S0.out (by omega)).mono ?_
 rintro e w1 ⟨rfl, v1, s', m'⟩; replace HO := m'.two HO NO; clear ho NO; obtain ⟨HO, NO⟩ := HO; have ho := HO.out.2.1; have M1 := M0.tr m'; obtain ⟨y1, hy⟩ : ∃ q_, q_ = idle y := ⟨_, rfl⟩; rw [← hy] at s'; have Y1 := Lib.hid hy; clear hc hf; obtain ⟨hc, hf⟩ := s'.cp; have S1 := Lib.hid s'; clear s' m' hy; have pb := pairV_b S1.out.ok 2; have qb := pairV_b S1.out.ok x; have fb := S1.out.fb; go_wp2; have S1' := Lib.hid S1.out.drew; have M1' := Lib.hid (M1.out.trans (PM.drew P R M tb v1 w1)); have HO' := Lib.hid HO.out.drew; clear ho HO; have HO := HO'; clear HO'; clear hc hf
 refine wp_region_held_drew (S := (fun w' => (∀ j, w'.cell? ⟨ob, j, none⟩ = #[Value.int .i64 16, .int .i64 x, .int .i64 z, .int .i64 s, .int .u16 nn][j]?) ∧ (w'.cell? ⟨P, 1, none⟩ = some (.int .u8 y1.s.r.f)) ∧ True)) (by kernel_rfl) ⟨HO.out.2.1, S1'.out.cp.1 1, trivial⟩ (fun hHeld => ?_)
 generalize World.drew w1 = u1 at hHeld S1' M1' HO ⊢; clear S1 M1; have S1 := S1'; have M1 := M1'; clear S1' M1'; refine tz 0 ?_; refine tz 2 ?_; refine tz 3 ?_; refine tz 4 ?_; refine tz 6 ?_; refine tz 7 ?_; refine tz 8 ?_; refine tz 9 ?_; refine tz 10 ?_; refine tz 11 ?_
 refine re1 1 (fun K hK => ?_)
 go_simp
 go_wp2_with (go_at_call 76; (with_reducible refine (pair_p S1.out (by omega) 2).mono ?_); rintro e w2 ⟨rfl, v2, s', m'⟩)
 replace HO := m'.two HO NO; clear NO; obtain ⟨HO, NO⟩ := HO
 refine hK.out _ _ ⟨HO.out.2.1, s'.cp.1 1, trivial⟩ (fun hNew => ?_); clear hK K hHeld; have hHeld := hNew; clear hNew
 have M2 := M1.tr m'; have S2 := Lib.hid s'; clear s' m'
 refine re1 5 (fun K hK => ?_)
 go_simp
 go_wp2_with (go_at_call 76; (with_reducible refine (pair_p S2.out (by omega) x).mono ?_); rintro e w3 ⟨rfl, v3, s', m'⟩)
 replace HO := m'.two HO NO; clear NO; obtain ⟨HO, NO⟩ := HO
 refine hK.out _ _ ⟨HO.out.2.1, s'.cp.1 1, trivial⟩ (fun hNew => ?_); clear hK K hHeld; have hHeld := hNew; clear hNew
 have M3 := M2.tr m'; have S3 := Lib.hid s'; clear s' m'
 refine re1 12 (fun K hK => ?_)
 go_simp
 go_wp2_with (go_at_call 117; (with_reducible refine (Alu.add16_c _ _ _ pb.1 pb.2 qb.1 qb.2 fb.1 fb.2 _).mono ?_); rintro e u' ⟨rfl, rfl⟩)
 refine hK.out _ _ hHeld (fun hNew => ?_); clear hK K hHeld; have hHeld := hNew; clear hNew
 refine tz 13 ?_; refine tz 14 ?_; refine tz 15 ?_; refine tz 16 ?_; refine tz 17 ?_
 refine wpAnyH_done (by kernel_rfl) ?_ _
 obtain ⟨hc, hf⟩ := S3.out.cp; have ho := HO.out.2.1; go_wp2_with fail
 with_reducible refine (setPair_p S3.out (by omega) 2 ((pairV y1.s.r 2 + pairV y1.s.r x) % 65536) (by omega) (by omega)).mono ?_
 rintro e w4 ⟨rfl, v4, s', m'⟩; replace HO := m'.two HO NO; clear ho NO; obtain ⟨HO, NO⟩ := HO; have ho := HO.out.2.1; have M4 := M3.tr m'; obtain ⟨y4, hy⟩ : ∃ q_, q_ = pairS 2 ((pairV y1.s.r 2 + pairV y1.s.r x) % 65536) y1 := ⟨_, rfl⟩; rw [← hy] at s'; have Y4 := Lib.hid hy; clear hc hf; obtain ⟨hc, hf⟩ := s'.cp; have S4 := Lib.hid s'; clear s' m' hy; have Q := Lib.hid (S4.out.stF (Alu.add16F (pairV y1.s.r 2) (pairV y1.s.r x) y1.s.r.f) (Alu.FL_b _ _ _ _).1 (Alu.FL_b _ _ _ _).2); go_wp2
 go_end0
 refine ⟨rfl, v4, ?_, M4.out.trans Q.out.2⟩
 have q := Q.out.1
 have e1 : setF (Alu.add16F (hlV y) (pairV y.s.r x) y.s.r.f) (pairS 2 ((hlV y + pairV y.s.r x) % 65536) (idle y)) = setF (Alu.add16F (pairV y1.s.r 2) (pairV y1.s.r x) y1.s.r.f) y4 := by rw [Y4.out, Y1.out]; rfl
 rw [e1]
 exact q.mo
theorem words_41 (h0 : Sys procD ramC w P R M tb v y n) (hn : n < 970000) (x z s nn : Int) : Calls Tryz.prog 96 #[.pointer (some ⟨P, 0, none⟩), .agg #[.int .i64 41, .int .i64 x, .int .i64 z, .int .i64 s, .int .u16 nn]] w (PE procD ramC P R M tb v w (.tuple #[]) (setF (Alu.shiftF y.s.r.sp (nn % 256)) (setSP (Alu.shiftR y.s.r.sp (nn % 256)) (idle (idle y)))) (n + 2)) := by
 have hm := mI ⟨R, 0, none⟩; obtain ⟨S0, M0, HO, NO⟩ := h0.beg #[.int .i64 41, .int .i64 x, .int .i64 z, .int .i64 s, .int .u16 nn] 44; obtain ⟨hc, hf⟩ := S0.out.cp; clear h0; go_enter Tryz.func96, Tryz.ntmps96; go_wp2_with fail; generalize w.alloc (.cells #[.int .i64 41, .int .i64 x, .int .i64 z, .int .i64 s, .int .u16 nn] 44) = w0 at S0 M0 HO hc hf ⊢; generalize w.heap.size = ob at HO NO ⊢; have ho := HO.out.2.1
 with_reducible refine (idle_p S0.out (by omega)).mono ?_
 rintro e w1 ⟨rfl, v1, s', m'⟩; replace HO := m'.two HO NO; clear ho NO; obtain ⟨HO, NO⟩ := HO; have ho := HO.out.2.1; have M1 := M0.tr m'; obtain ⟨y1, hy⟩ : ∃ q_, q_ = idle y := ⟨_, rfl⟩; rw [← hy] at s'; have Y1 := Lib.hid hy; clear hc hf; obtain ⟨hc, hf⟩ := s'.cp; have S1 := Lib.hid s'; clear s' m' hy; go_wp2_with fail
 with_reducible refine (idle_p S1.out (by omega)).mono ?_
 rintro e w2 ⟨rfl, v2, s', m'⟩; replace HO := m'.two HO NO; clear ho NO; obtain ⟨HO, NO⟩ := HO; have ho := HO.out.2.1; have M2 := M1.tr m'; obtain ⟨y2, hy⟩ : ∃ q_, q_ = idle y1 := ⟨_, rfl⟩; rw [← hy] at s'; have Y2 := Lib.hid hy; clear hc hf; obtain ⟨hc, hf⟩ := s'.cp; have S2 := Lib.hid s'; clear s' m' hy; have spb := S2.out.spb; go_wp2; replace S2 := Lib.hid S2.out.drew; replace M2 := Lib.hid (M2.out.trans (PM.drew P R M tb v2 w2)); replace HO := Lib.hid HO.out.drew; clear ho hc hf
 refine rh HO (fun hHeld => ?_)
 generalize World.drew w2 = u2 at hHeld S2 M2 HO ⊢; refine tz 0 ?_; refine tz 1 ?_; refine tz 2 ?_; refine tz 3 ?_; refine tz 4 ?_; refine tz 5 ?_; refine tz 6 ?_; refine tz 8 ?_; refine tz 9 ?_; refine tz 10 ?_
 refine re1 7 (fun K hK => ?_)
 obtain ⟨hc, hf⟩ := S2.out.cp; go_simp; clear hc hf
 refine hK.out _ _ hHeld (fun hNew => ?_); clear hK K hHeld; have hHeld := hNew; clear hNew
 try simp only [Act.put, qqA, qqB, qqC]
 refine re1 11 (fun K hK => ?_)
 go_simp; rw [IntKind.wrap_u8 nn]
 go_wp2_with (go_at_call 118; (with_reducible refine (Alu.shift16_c y2.s.r.sp (nn % 256) spb.1 spb.2 (by omega) (by omega) _).mono ?_); rintro e u' ⟨rfl, rfl⟩)
 refine hK.out _ _ hHeld (fun hNew => ?_); clear hK K hHeld; have hHeld := hNew; clear hNew
 refine tz 12 ?_; refine tz 13 ?_; refine tz 14 ?_; refine tz 15 ?_; refine tz 16 ?_; refine tz 17 ?_; refine tz 18 ?_
 refine re1 19 (fun K hK => ?_)
 obtain ⟨hc, hf⟩ := S2.out.cp; go_simp; clear hc hf; have q := S2.out.stSP (Alu.shiftR y2.s.r.sp (nn % 256)) (shiftR_b _ _).1 (shiftR_b _ _).2; have s' := q.1; have m' := q.2; clear q; replace HO := m'.two HO NO; clear NO; obtain ⟨HO, NO⟩ := HO
 refine hK.out _ _ ⟨HO.out.2.1, trivial⟩ (fun hNew => ?_); clear hK K hHeld; have hHeld := hNew; clear hNew
 generalize World.setCell u2 ⟨P, 8, none⟩ (.int .u16 (Alu.shiftR y2.s.r.sp (nn % 256))) = w3 at hHeld s' m' HO ⊢; have M3 := M2.tr m'; obtain ⟨y3, hy⟩ : ∃ q_, q_ = setSP (Alu.shiftR y2.s.r.sp (nn % 256)) y2 := ⟨_, rfl⟩; rw [← hy] at s'; have Y3 := Lib.hid hy; have S3 := Lib.hid s'; clear s' m' hy; refine tz 20 ?_; refine tz 21 ?_; refine tz 22 ?_; refine tz 23 ?_
 refine re1 24 (fun K hK => ?_)
 obtain ⟨hc, hf⟩ := S3.out.cp; go_simp; clear hc hf; have q := S3.out.stF (Alu.shiftF y2.s.r.sp (nn % 256)) (Alu.FL_b _ _ _ _).1 (Alu.FL_b _ _ _ _).2; have s' := q.1; have m' := q.2; clear q; replace HO := m'.two HO NO; clear NO; obtain ⟨HO, NO⟩ := HO
 refine hK.out _ _ ⟨HO.out.2.1, trivial⟩ (fun hNew => ?_); clear hK K hHeld; have hHeld := hNew; clear hNew
 generalize World.setCell w3 ⟨P, 1, none⟩ (.int .u8 (Alu.shiftF y2.s.r.sp (nn % 256))) = w4 at hHeld s' m' HO ⊢; have M4 := M3.tr m'; obtain ⟨y4, hy⟩ : ∃ q_, q_ = setF (Alu.shiftF y2.s.r.sp (nn % 256)) y3 := ⟨_, rfl⟩; rw [← hy] at s'; have Y4 := Lib.hid hy; have S4 := Lib.hid s'; clear s' m' hy
 refine wpAnyH_done (by kernel_rfl) ?_ _
 obtain ⟨hc, hf⟩ := S4.out.cp; have ho := HO.out.2.1; go_wp2
 go_end0
 refine ⟨rfl, v2, ?_, M4.out⟩
 have q := S4.out; have e := Y4.out.symm; subst e; have e := Y3.out.symm; subst e; have e := Y2.out.symm; subst e; have e := Y1.out.symm; subst e
 exact q.mo
theorem words_42 (h0 : Sys procD ramC w P R M tb v y n) (hn : n < 970000) (x z s nn : Int) : Calls Tryz.prog 96 #[.pointer (some ⟨P, 0, none⟩), .agg #[.int .i64 42, .int .i64 x, .int .i64 z, .int .i64 s, .int .u16 nn]] w (PE procD ramC P R M tb v w (.tuple #[]) (setF (Alu.shiftF y.s.r.sp (nn % 256)) (pairS 2 (Alu.shiftR y.s.r.sp (nn % 256)) (idle y))) (n + 1)) := by
 have hm := mI ⟨R, 0, none⟩; obtain ⟨S0, M0, HO, NO⟩ := h0.beg #[.int .i64 42, .int .i64 x, .int .i64 z, .int .i64 s, .int .u16 nn] 44; obtain ⟨hc, hf⟩ := S0.out.cp; clear h0; go_enter Tryz.func96, Tryz.ntmps96; go_wp2_with fail; generalize w.alloc (.cells #[.int .i64 42, .int .i64 x, .int .i64 z, .int .i64 s, .int .u16 nn] 44) = w0 at S0 M0 HO hc hf ⊢; generalize w.heap.size = ob at HO NO ⊢; have ho := HO.out.2.1
 with_reducible refine (idle_p S0.out (by omega)).mono ?_
 rintro e w1 ⟨rfl, v1, s', m'⟩; replace HO := m'.two HO NO; clear ho NO; obtain ⟨HO, NO⟩ := HO; have ho := HO.out.2.1; have M1 := M0.tr m'; obtain ⟨y1, hy⟩ : ∃ q_, q_ = idle y := ⟨_, rfl⟩; rw [← hy] at s'; have Y1 := Lib.hid hy; clear hc hf; obtain ⟨hc, hf⟩ := s'.cp; have S1 := Lib.hid s'; clear s' m' hy; have spb := S1.out.spb; go_wp2; have S1' := Lib.hid S1.out.drew; have M1' := Lib.hid (M1.out.trans (PM.drew P R M tb v1 w1)); have HO' := Lib.hid HO.out.drew; clear ho HO; have HO := HO'; clear HO'; clear hc hf
 refine wp_region_held_drew (S := (fun w' => (∀ j, w'.cell? ⟨ob, j, none⟩ = #[Value.int .i64 42, .int .i64 x, .int .i64 z, .int .i64 s, .int .u16 nn][j]?) ∧ (w'.cell? ⟨P, 8, none⟩ = some (.int .u16 y1.s.r.sp)) ∧ True)) (by kernel_rfl) ⟨HO.out.2.1, S1'.out.cp.1 8, trivial⟩ (fun hHeld => ?_)
 generalize World.drew w1 = u1 at hHeld S1' M1' HO ⊢; clear S1 M1; have S1 := S1'; have M1 := M1'; clear S1' M1'; refine tz 0 ?_; refine tz 1 ?_; refine tz 2 ?_; refine tz 3 ?_; refine tz 4 ?_; refine tz 5 ?_; refine tz 6 ?_; refine tz 7 ?_; refine tz 8 ?_
 refine re1 9 (fun K hK => ?_)
 go_simp; rw [IntKind.wrap_u8 nn]
 go_wp2_with (go_at_call 118; (with_reducible refine (Alu.shift16_c y1.s.r.sp (nn % 256) spb.1 spb.2 (by omega) (by omega) _).mono ?_); rintro e u' ⟨rfl, rfl⟩)
 refine hK.out _ _ hHeld (fun hNew => ?_); clear hK K hHeld; have hHeld := hNew; clear hNew
 refine tz 10 ?_; refine tz 11 ?_; refine tz 12 ?_; refine tz 13 ?_; refine tz 14 ?_
 refine wpAnyH_done (by kernel_rfl) ?_ _
 obtain ⟨hc, hf⟩ := S1.out.cp; have ho := HO.out.2.1; go_wp2_with fail
 with_reducible refine (setPair_p S1.out (by omega) 2 (Alu.shiftR y1.s.r.sp (nn % 256)) (shiftR_b _ _).1 (shiftR_b _ _).2).mono ?_
 rintro e w2 ⟨rfl, v2, s', m'⟩; replace HO := m'.two HO NO; clear ho NO; obtain ⟨HO, NO⟩ := HO; have ho := HO.out.2.1; have M2 := M1.tr m'; obtain ⟨y2, hy⟩ : ∃ q_, q_ = pairS 2 (Alu.shiftR y1.s.r.sp (nn % 256)) y1 := ⟨_, rfl⟩; rw [← hy] at s'; have Y2 := Lib.hid hy; clear hc hf; obtain ⟨hc, hf⟩ := s'.cp; have S2 := Lib.hid s'; clear s' m' hy; have Q := Lib.hid (S2.out.stF (Alu.shiftF y1.s.r.sp (nn % 256)) (Alu.FL_b _ _ _ _).1 (Alu.FL_b _ _ _ _).2); go_wp2
 go_end0
 refine ⟨rfl, v2, ?_, M2.out.trans Q.out.2⟩
 have q := Q.out.1
 have e1 : setF (Alu.shiftF y.s.r.sp (nn % 256)) (pairS 2 (Alu.shiftR y.s.r.sp (nn % 256)) (idle y)) = setF (Alu.shiftF y1.s.r.sp (nn % 256)) y2 := by rw [Y2.out, Y1.out]; rfl
 rw [e1]
 exact q.mo
end
end Go.Proofs.YtngdogldgcgnjaaGreat
