/-
  What an order does on the document's own processor, kind by kind: for every world; the processor is there.
-/
import Derived.Test.YtngdogldgcgnjaaGreatZ33
import Derived.Deep.Cut
set_option maxRecDepth 100000
set_option maxHeartbeats 8000000
namespace Go.Proofs.YtngdogldgcgnjaaGreat
open Go.ChangeShapes Go.WideShapes Go.ChangeAt Go.RowKit
open Reg
set_option linter.unusedVariables false
section
variable {w : World} {P R M tb n : Nat} {v : Value} {y : Sy}
theorem d_14 (h0 : Sys noD memC w P R M tb v y n) (hn : n < 900000) (x yy s nn nl at_ : Int) (n0 : 0 ≤ nn) (n1 : nn < 65536) (hnl : nn % 256 = nl) : Calls Tryz.prog 26 #[.pointer (some ⟨P, 0, none⟩), .pointer (some ⟨R, 0, none⟩), .agg #[.int .i64 14, .int .i64 x, .int .i64 yy, .int .i64 s, .int .u16 nn], .int .u16 at_] w (PE noD memC P R M tb v w (.bool true) (pairS x (up (pairV y.s.r x)) (idle y)) (n + 4)) := by
 have f0 := h0.ok.2.1.1; have f1 := h0.ok.2.1.2
 have b2 : 0 ≤ nl ∧ nl < 256 := by omega
 have NB := Lib.hid b2
 have e2 : nn.tmod 256 = nl := by rw [Int.tmod_eq_emod_of_nonneg n0]; exact hnl
 have e4 : IntKind.u16.wrap nl = nl := IntWalk.u16_in nl (by omega); have e6 : nl % 256 = nl := Int.emod_eq_of_lt b2.1 b2.2; have F := Lib.hid (And.intro f0 f1); have HNL := Lib.hid hnl; clear b2 hnl
 have hnot := nt
 obtain ⟨S0, M0, HO, NO⟩ := h0.beg #[.int .i64 14, .int .i64 x, .int .i64 yy, .int .i64 s, .int .u16 nn] 47; obtain ⟨hc, hf⟩ := S0.out.cm; clear h0; go_enter Tryz.func26, Tryz.ntmps26; go_upto_region 1 with (fail); generalize w.alloc (.cells #[.int .i64 14, .int .i64 x, .int .i64 yy, .int .i64 s, .int .u16 nn] 47) = w0 at S0 M0 HO hc hf ⊢; generalize w.heap.size = ob at HO NO ⊢; have ho := HO.out.2.1; go_wp2_with fail
 with_reducible refine (Alu.z_r y.s.r.f F.out.1 F.out.2 _).mono ?_
 rintro e w_ ⟨rfl, rfl⟩; go_wp2_with fail
 with_reducible refine (Alu.c_r y.s.r.f F.out.1 F.out.2 _).mono ?_
 rintro e w_ ⟨rfl, rfl⟩; go_upto_region 4 with (fail); clear e2 e4 e6; replace S0 := Lib.hid S0.out.drew; replace M0 := Lib.hid (M0.out.trans (PM.drew P R M tb v w0)); replace HO := Lib.hid HO.out.drew; clear ho hc hf
 refine rh HO (fun hHeld => ?_)
 generalize World.drew w0 = u0 at hHeld S0 M0 HO ⊢; refine tz 0 ?_; refine tz 1 ?_; refine tz 2 ?_; refine tz 4 ?_; refine tz 5 ?_
 refine re1 3 (fun K hK => ?_)
 obtain ⟨hc, hf⟩ := S0.out.cm; go_simp; clear hc hf
 refine hK.out _ _ hHeld (fun hNew => ?_); clear hK K hHeld; have hHeld := hNew; clear hNew
 try simp only [Act.put, qqA, qqB, qqC]
 refine re1 6 (fun K hK => ?_)
 go_simp
 go_wp2_with (go_at_call 35; (with_reducible refine (Reg.is_r y.s.r x F.out.1 F.out.2 _).mono ?_); rintro e w1 ⟨rfl, hb⟩)
 have s' := S0.out.below hb; have m' : PM P R M tb v u0 v w1 := PM.of hb; clear hb; replace HO := m'.two HO NO; clear NO; obtain ⟨HO, NO⟩ := HO
 refine hK.out _ _ ⟨HO.out.2.1, trivial⟩ (fun hNew => ?_); clear hK K hHeld; have hHeld := hNew; clear hNew
 have M1 := M0.tr m'; have S1 := Lib.hid s'; clear s' m'; refine tz 7 ?_
 refine wpAnyH_done (by kernel_rfl) ?_ _
 obtain ⟨hc, hf⟩ := S1.out.cm; have ho := HO.out.2.1; clear hHeld; have pb0 := (pairV_b S1.out.ok x).1; have pb1 := (pairV_b S1.out.ok x).2; obtain ⟨z, hz⟩ : ∃ q_, pairV y.s.r x + 1 = q_ := ⟨_, rfl⟩; have WR := Lib.hid (word_r z (up (pairV y.s.r x)) (by omega) (by omega) (by rw [← hz]; rfl)); have hw : IntKind.i64.wrap (pairV y.s.r x + 1) = z := (IntWalk.i64_in _ (by omega)).trans hz; have hw0 : IntKind.i64.wrap (pairV y.s.r x) = pairV y.s.r x := IntWalk.i64_in _ (by omega); clear hz pb0 pb1; go_upto_region 35 with (fail); replace S1 := Lib.hid S1.out.drew; replace M1 := Lib.hid (M1.out.trans (PM.drew P R M tb v w1)); replace HO := Lib.hid HO.out.drew; clear ho hc hf
 refine rh HO (fun hHeld => ?_)
 generalize World.drew w1 = u1 at hHeld S1 M1 HO ⊢; refine tz 0 ?_; refine tz 1 ?_; refine tz 2 ?_; refine tz 3 ?_; refine tz 5 ?_; refine tz 6 ?_; refine tz 7 ?_; refine tz 8 ?_; refine tz 9 ?_
 refine wpAnyH_ready (rs := [4, 10]) (by kernel_rfl) (by simp) ?_
 refine (ac rfl (fun K hK => ?_) (ac rfl (fun K hK => ?_) AllReadyH.nil))
 ·skip
  obtain ⟨hc, hf⟩ := S1.out.cm; go_simp; clear hc hf
  refine hK.out _ _ hHeld (fun hNew => ?_); clear hK K hHeld; have hHeld := hNew; clear hNew
  try simp only [Act.put, qqA, qqB, qqC]
  refine re1 10 (fun K hK => ?_)
  go_simp
  go_wp2_with (go_at_call 42; (with_reducible refine (mpair_p S1.out (by clear hw hw0; omega) x).mono ?_); rintro e w2 ⟨rfl, v2, s', m'⟩)
  replace HO := m'.two HO NO; clear NO; obtain ⟨HO, NO⟩ := HO
  refine hK.out _ _ ⟨HO.out.2.1, trivial⟩ (fun hNew => ?_); clear hK K hHeld; have hHeld := hNew; clear hNew
  have M2 := M1.tr m'; have S2 := Lib.hid s'; clear s' m'; refine tz 11 ?_; refine tz 12 ?_
  refine re1 13 (fun K hK => ?_)
  go_simp
  go_wp2_with (go_at_call 24; (with_reducible refine (WR.out _).mono ?_); rintro e u' ⟨rfl, rfl⟩)
  refine hK.out _ _ hHeld (fun hNew => ?_); clear hK K hHeld; have hHeld := hNew; clear hNew
  refine re1 14 (fun K hK => ?_)
  go_simp
  go_wp2_with (go_at_call 38; (with_reducible refine (setPair_r y.s.r x (up (pairV y.s.r x)) (up_b _).1 (up_b _).2 _).mono ?_); rintro e w3 ⟨rfl, hb⟩)
  have s' := S2.out.below hb; have m' : PM P R M tb v2 w2 v2 w3 := PM.of hb; clear hb; replace HO := m'.two HO NO; clear NO; obtain ⟨HO, NO⟩ := HO
  refine hK.out _ _ ⟨HO.out.2.1, trivial⟩ (fun hNew => ?_); clear hK K hHeld; have hHeld := hNew; clear hNew
  have M3 := M2.tr m'; have S3 := Lib.hid s'; clear s' m'; refine tz 15 ?_; refine tz 16 ?_; refine tz 17 ?_; refine tz 18 ?_; refine tz 19 ?_
  refine re1 20 (fun K hK => ?_)
  obtain ⟨hc, hf⟩ := S3.out.cm; go_simp; clear hc hf; have q := S3.out.stR (setP y.s.r x (up (pairV y.s.r x))) (setP_ok S3.out.ok x _ (up_b _).1 (up_b _).2); have s' := q.1; have m' := q.2; clear q; replace HO := m'.two HO NO; clear NO; obtain ⟨HO, NO⟩ := HO
  refine hK.out _ _ ⟨HO.out.2.1, trivial⟩ (fun hNew => ?_); clear hK K hHeld; have hHeld := hNew; clear hNew
  generalize (World.setCell (World.setCell (World.setCell (World.setCell (World.setCell (World.setCell (World.setCell (World.setCell (World.setCell (World.setCell w3 ⟨P, 0, none⟩ (.int .u8 (setP y.s.r x (up (pairV y.s.r x))).a)) ⟨P, 1, none⟩ (.int .u8 (setP y.s.r x (up (pairV y.s.r x))).f)) ⟨P, 2, none⟩ (.int .u8 (setP y.s.r x (up (pairV y.s.r x))).b)) ⟨P, 3, none⟩ (.int .u8 (setP y.s.r x (up (pairV y.s.r x))).c)) ⟨P, 4, none⟩ (.int .u8 (setP y.s.r x (up (pairV y.s.r x))).d)) ⟨P, 5, none⟩ (.int .u8 (setP y.s.r x (up (pairV y.s.r x))).e)) ⟨P, 6, none⟩ (.int .u8 (setP y.s.r x (up (pairV y.s.r x))).h)) ⟨P, 7, none⟩ (.int .u8 (setP y.s.r x (up (pairV y.s.r x))).l)) ⟨P, 8, none⟩ (.int .u16 (setP y.s.r x (up (pairV y.s.r x))).sp)) ⟨P, 9, none⟩ (.int .u16 (setP y.s.r x (up (pairV y.s.r x))).pc)) = w4 at hHeld s' m' HO ⊢; have M4 := M3.tr m'; obtain ⟨y4, hy⟩ : ∃ q_, q_ = setRR (setP y.s.r x (up (pairV y.s.r x))) y := ⟨_, rfl⟩; rw [← hy] at s'; have Y4 := Lib.hid hy; clear hy; have S4 := Lib.hid s'; clear s' m'
  refine wpAnyH_done (by kernel_rfl) ?_ _
  obtain ⟨hc, hf⟩ := S4.out.cm; have ho := HO.out.2.1; clear hHeld; go_wp2_with fail
  with_reducible refine (midle_p S4.out (by clear hw hw0; omega)).mono ?_
  rintro e w5 ⟨rfl, v5, s', m'⟩; replace HO := m'.two HO NO; clear ho NO; obtain ⟨HO, NO⟩ := HO; have ho := HO.out.2.1; have M5 := M4.tr m'; obtain ⟨y5, hy⟩ : ∃ q_, q_ = idle y4 := ⟨_, rfl⟩; rw [← hy] at s'; have Y5 := Lib.hid hy; clear hy; clear hc hf; obtain ⟨hc, hf⟩ := s'.cm; have S5 := Lib.hid s'; clear s' m'; clear hw hw0; go_wp2; go_ret
  refine ⟨rfl, v5, ?_, M5.out⟩
  have q := S5.out; have e := Y5.out.symm; subst e; have e := Y4.out.symm; subst e
  exact q.mo
 ·skip
  go_simp
  go_wp2_with (go_at_call 42; (with_reducible refine (mpair_p S1.out (by clear hw hw0; omega) x).mono ?_); rintro e w2 ⟨rfl, v2, s', m'⟩)
  replace HO := m'.two HO NO; clear NO; obtain ⟨HO, NO⟩ := HO
  refine hK.out _ _ ⟨HO.out.2.1, trivial⟩ (fun hNew => ?_); clear hK K hHeld; have hHeld := hNew; clear hNew
  have M2 := M1.tr m'; have S2 := Lib.hid s'; clear s' m'; refine tz 11 ?_; refine tz 12 ?_
  refine wpAnyH_ready (rs := [4, 13]) (by kernel_rfl) (by simp) ?_
  refine (ac rfl (fun K hK => ?_) (ac rfl (fun K hK => ?_) AllReadyH.nil))
  ·skip
   obtain ⟨hc, hf⟩ := S2.out.cm; go_simp; clear hc hf
   refine hK.out _ _ hHeld (fun hNew => ?_); clear hK K hHeld; have hHeld := hNew; clear hNew
   try simp only [Act.put, qqA, qqB, qqC]
   refine re1 13 (fun K hK => ?_)
   go_simp
   go_wp2_with (go_at_call 24; (with_reducible refine (WR.out _).mono ?_); rintro e u' ⟨rfl, rfl⟩)
   refine hK.out _ _ hHeld (fun hNew => ?_); clear hK K hHeld; have hHeld := hNew; clear hNew
   refine re1 14 (fun K hK => ?_)
   go_simp
   go_wp2_with (go_at_call 38; (with_reducible refine (setPair_r y.s.r x (up (pairV y.s.r x)) (up_b _).1 (up_b _).2 _).mono ?_); rintro e w3 ⟨rfl, hb⟩)
   have s' := S2.out.below hb; have m' : PM P R M tb v2 w2 v2 w3 := PM.of hb; clear hb; replace HO := m'.two HO NO; clear NO; obtain ⟨HO, NO⟩ := HO
   refine hK.out _ _ ⟨HO.out.2.1, trivial⟩ (fun hNew => ?_); clear hK K hHeld; have hHeld := hNew; clear hNew
   have M3 := M2.tr m'; have S3 := Lib.hid s'; clear s' m'; refine tz 15 ?_; refine tz 16 ?_; refine tz 17 ?_; refine tz 18 ?_; refine tz 19 ?_
   refine re1 20 (fun K hK => ?_)
   obtain ⟨hc, hf⟩ := S3.out.cm; go_simp; clear hc hf; have q := S3.out.stR (setP y.s.r x (up (pairV y.s.r x))) (setP_ok S3.out.ok x _ (up_b _).1 (up_b _).2); have s' := q.1; have m' := q.2; clear q; replace HO := m'.two HO NO; clear NO; obtain ⟨HO, NO⟩ := HO
   refine hK.out _ _ ⟨HO.out.2.1, trivial⟩ (fun hNew => ?_); clear hK K hHeld; have hHeld := hNew; clear hNew
   generalize (World.setCell (World.setCell (World.setCell (World.setCell (World.setCell (World.setCell (World.setCell (World.setCell (World.setCell (World.setCell w3 ⟨P, 0, none⟩ (.int .u8 (setP y.s.r x (up (pairV y.s.r x))).a)) ⟨P, 1, none⟩ (.int .u8 (setP y.s.r x (up (pairV y.s.r x))).f)) ⟨P, 2, none⟩ (.int .u8 (setP y.s.r x (up (pairV y.s.r x))).b)) ⟨P, 3, none⟩ (.int .u8 (setP y.s.r x (up (pairV y.s.r x))).c)) ⟨P, 4, none⟩ (.int .u8 (setP y.s.r x (up (pairV y.s.r x))).d)) ⟨P, 5, none⟩ (.int .u8 (setP y.s.r x (up (pairV y.s.r x))).e)) ⟨P, 6, none⟩ (.int .u8 (setP y.s.r x (up (pairV y.s.r x))).h)) ⟨P, 7, none⟩ (.int .u8 (setP y.s.r x (up (pairV y.s.r x))).l)) ⟨P, 8, none⟩ (.int .u16 (setP y.s.r x (up (pairV y.s.r x))).sp)) ⟨P, 9, none⟩ (.int .u16 (setP y.s.r x (up (pairV y.s.r x))).pc)) = w4 at hHeld s' m' HO ⊢; have M4 := M3.tr m'; obtain ⟨y4, hy⟩ : ∃ q_, q_ = setRR (setP y.s.r x (up (pairV y.s.r x))) y := ⟨_, rfl⟩; rw [← hy] at s'; have Y4 := Lib.hid hy; clear hy; have S4 := Lib.hid s'; clear s' m'
   refine wpAnyH_done (by kernel_rfl) ?_ _
   obtain ⟨hc, hf⟩ := S4.out.cm; have ho := HO.out.2.1; clear hHeld; go_wp2_with fail
   with_reducible refine (midle_p S4.out (by clear hw hw0; omega)).mono ?_
   rintro e w5 ⟨rfl, v5, s', m'⟩; replace HO := m'.two HO NO; clear ho NO; obtain ⟨HO, NO⟩ := HO; have ho := HO.out.2.1; have M5 := M4.tr m'; obtain ⟨y5, hy⟩ : ∃ q_, q_ = idle y4 := ⟨_, rfl⟩; rw [← hy] at s'; have Y5 := Lib.hid hy; clear hy; clear hc hf; obtain ⟨hc, hf⟩ := s'.cm; have S5 := Lib.hid s'; clear s' m'; clear hw hw0; go_wp2; go_ret
   refine ⟨rfl, v5, ?_, M5.out⟩
   have q := S5.out; have e := Y5.out.symm; subst e; have e := Y4.out.symm; subst e
   exact q.mo
  ·skip
   go_simp
   go_wp2_with (go_at_call 24; (with_reducible refine (WR.out _).mono ?_); rintro e u' ⟨rfl, rfl⟩)
   refine hK.out _ _ hHeld (fun hNew => ?_); clear hK K hHeld; have hHeld := hNew; clear hNew
   refine re1 4 (fun K hK => ?_)
   obtain ⟨hc, hf⟩ := S2.out.cm; go_simp; clear hc hf
   refine hK.out _ _ hHeld (fun hNew => ?_); clear hK K hHeld; have hHeld := hNew; clear hNew
   try simp only [Act.put, qqA, qqB, qqC]
   refine re1 14 (fun K hK => ?_)
   go_simp
   go_wp2_with (go_at_call 38; (with_reducible refine (setPair_r y.s.r x (up (pairV y.s.r x)) (up_b _).1 (up_b _).2 _).mono ?_); rintro e w3 ⟨rfl, hb⟩)
   have s' := S2.out.below hb; have m' : PM P R M tb v2 w2 v2 w3 := PM.of hb; clear hb; replace HO := m'.two HO NO; clear NO; obtain ⟨HO, NO⟩ := HO
   refine hK.out _ _ ⟨HO.out.2.1, trivial⟩ (fun hNew => ?_); clear hK K hHeld; have hHeld := hNew; clear hNew
   have M3 := M2.tr m'; have S3 := Lib.hid s'; clear s' m'; refine tz 15 ?_; refine tz 16 ?_; refine tz 17 ?_; refine tz 18 ?_; refine tz 19 ?_
   refine re1 20 (fun K hK => ?_)
   obtain ⟨hc, hf⟩ := S3.out.cm; go_simp; clear hc hf; have q := S3.out.stR (setP y.s.r x (up (pairV y.s.r x))) (setP_ok S3.out.ok x _ (up_b _).1 (up_b _).2); have s' := q.1; have m' := q.2; clear q; replace HO := m'.two HO NO; clear NO; obtain ⟨HO, NO⟩ := HO
   refine hK.out _ _ ⟨HO.out.2.1, trivial⟩ (fun hNew => ?_); clear hK K hHeld; have hHeld := hNew; clear hNew
   generalize (World.setCell (World.setCell (World.setCell (World.setCell (World.setCell (World.setCell (World.setCell (World.setCell (World.setCell (World.setCell w3 ⟨P, 0, none⟩ (.int .u8 (setP y.s.r x (up (pairV y.s.r x))).a)) ⟨P, 1, none⟩ (.int .u8 (setP y.s.r x (up (pairV y.s.r x))).f)) ⟨P, 2, none⟩ (.int .u8 (setP y.s.r x (up (pairV y.s.r x))).b)) ⟨P, 3, none⟩ (.int .u8 (setP y.s.r x (up (pairV y.s.r x))).c)) ⟨P, 4, none⟩ (.int .u8 (setP y.s.r x (up (pairV y.s.r x))).d)) ⟨P, 5, none⟩ (.int .u8 (setP y.s.r x (up (pairV y.s.r x))).e)) ⟨P, 6, none⟩ (.int .u8 (setP y.s.r x (up (pairV y.s.r x))).h)) ⟨P, 7, none⟩ (.int .u8 (setP y.s.r x (up (pairV y.s.r x))).l)) ⟨P, 8, none⟩ (.int .u16 (setP y.s.r x (up (pairV y.s.r x))).sp)) ⟨P, 9, none⟩ (.int .u16 (setP y.s.r x (up (pairV y.s.r x))).pc)) = w4 at hHeld s' m' HO ⊢; have M4 := M3.tr m'; obtain ⟨y4, hy⟩ : ∃ q_, q_ = setRR (setP y.s.r x (up (pairV y.s.r x))) y := ⟨_, rfl⟩; rw [← hy] at s'; have Y4 := Lib.hid hy; clear hy; have S4 := Lib.hid s'; clear s' m'
   refine wpAnyH_done (by kernel_rfl) ?_ _
   obtain ⟨hc, hf⟩ := S4.out.cm; have ho := HO.out.2.1; clear hHeld; go_wp2_with fail
   with_reducible refine (midle_p S4.out (by clear hw hw0; omega)).mono ?_
   rintro e w5 ⟨rfl, v5, s', m'⟩; replace HO := m'.two HO NO; clear ho NO; obtain ⟨HO, NO⟩ := HO; have ho := HO.out.2.1; have M5 := M4.tr m'; obtain ⟨y5, hy⟩ : ∃ q_, q_ = idle y4 := ⟨_, rfl⟩; rw [← hy] at s'; have Y5 := Lib.hid hy; clear hy; clear hc hf; obtain ⟨hc, hf⟩ := s'.cm; have S5 := Lib.hid s'; clear s' m'; clear hw hw0; go_wp2; go_ret
   refine ⟨rfl, v5, ?_, M5.out⟩
   have q := S5.out; have e := Y5.out.symm; subst e; have e := Y4.out.symm; subst e
   exact q.mo
theorem d_15 (h0 : Sys noD memC w P R M tb v y n) (hn : n < 900000) (x yy s nn nl at_ : Int) (n0 : 0 ≤ nn) (n1 : nn < 65536) (hnl : nn % 256 = nl) : Calls Tryz.prog 26 #[.pointer (some ⟨P, 0, none⟩), .pointer (some ⟨R, 0, none⟩), .agg #[.int .i64 15, .int .i64 x, .int .i64 yy, .int .i64 s, .int .u16 nn], .int .u16 at_] w (PE noD memC P R M tb v w (.bool true) (pairS x (dn (pairV y.s.r x)) (idle y)) (n + 4)) := by
 have f0 := h0.ok.2.1.1; have f1 := h0.ok.2.1.2
 have b2 : 0 ≤ nl ∧ nl < 256 := by omega
 have NB := Lib.hid b2
 have e2 : nn.tmod 256 = nl := by rw [Int.tmod_eq_emod_of_nonneg n0]; exact hnl
 have e4 : IntKind.u16.wrap nl = nl := IntWalk.u16_in nl (by omega); have e6 : nl % 256 = nl := Int.emod_eq_of_lt b2.1 b2.2; have F := Lib.hid (And.intro f0 f1); have HNL := Lib.hid hnl; clear b2 hnl
 have hnot := nt
 obtain ⟨S0, M0, HO, NO⟩ := h0.beg #[.int .i64 15, .int .i64 x, .int .i64 yy, .int .i64 s, .int .u16 nn] 47; obtain ⟨hc, hf⟩ := S0.out.cm; clear h0; go_enter Tryz.func26, Tryz.ntmps26; go_upto_region 1 with (fail); generalize w.alloc (.cells #[.int .i64 15, .int .i64 x, .int .i64 yy, .int .i64 s, .int .u16 nn] 47) = w0 at S0 M0 HO hc hf ⊢; generalize w.heap.size = ob at HO NO ⊢; have ho := HO.out.2.1; go_wp2_with fail
 with_reducible refine (Alu.z_r y.s.r.f F.out.1 F.out.2 _).mono ?_
 rintro e w_ ⟨rfl, rfl⟩; go_wp2_with fail
 with_reducible refine (Alu.c_r y.s.r.f F.out.1 F.out.2 _).mono ?_
 rintro e w_ ⟨rfl, rfl⟩; go_upto_region 4 with (fail); clear e2 e4 e6; replace S0 := Lib.hid S0.out.drew; replace M0 := Lib.hid (M0.out.trans (PM.drew P R M tb v w0)); replace HO := Lib.hid HO.out.drew; clear ho hc hf
 refine rh HO (fun hHeld => ?_)
 generalize World.drew w0 = u0 at hHeld S0 M0 HO ⊢; refine tz 0 ?_; refine tz 1 ?_; refine tz 2 ?_; refine tz 4 ?_; refine tz 5 ?_
 refine re1 3 (fun K hK => ?_)
 obtain ⟨hc, hf⟩ := S0.out.cm; go_simp; clear hc hf
 refine hK.out _ _ hHeld (fun hNew => ?_); clear hK K hHeld; have hHeld := hNew; clear hNew
 try simp only [Act.put, qqA, qqB, qqC]
 refine re1 6 (fun K hK => ?_)
 go_simp
 go_wp2_with (go_at_call 35; (with_reducible refine (Reg.is_r y.s.r x F.out.1 F.out.2 _).mono ?_); rintro e w1 ⟨rfl, hb⟩)
 have s' := S0.out.below hb; have m' : PM P R M tb v u0 v w1 := PM.of hb; clear hb; replace HO := m'.two HO NO; clear NO; obtain ⟨HO, NO⟩ := HO
 refine hK.out _ _ ⟨HO.out.2.1, trivial⟩ (fun hNew => ?_); clear hK K hHeld; have hHeld := hNew; clear hNew
 have M1 := M0.tr m'; have S1 := Lib.hid s'; clear s' m'; refine tz 7 ?_
 refine wpAnyH_done (by kernel_rfl) ?_ _
 obtain ⟨hc, hf⟩ := S1.out.cm; have ho := HO.out.2.1; clear hHeld; have pb0 := (pairV_b S1.out.ok x).1; have pb1 := (pairV_b S1.out.ok x).2; obtain ⟨z, hz⟩ : ∃ q_, pairV y.s.r x - 1 = q_ := ⟨_, rfl⟩; have WR := Lib.hid (word_r z (dn (pairV y.s.r x)) (by omega) (by omega) (by rw [← hz]; rfl)); have hw : IntKind.i64.wrap (pairV y.s.r x - 1) = z := (IntWalk.i64_in _ (by omega)).trans hz; have hw0 : IntKind.i64.wrap (pairV y.s.r x) = pairV y.s.r x := IntWalk.i64_in _ (by omega); clear hz pb0 pb1; go_upto_region 38 with (fail); replace S1 := Lib.hid S1.out.drew; replace M1 := Lib.hid (M1.out.trans (PM.drew P R M tb v w1)); replace HO := Lib.hid HO.out.drew; clear ho hc hf
 refine rh HO (fun hHeld => ?_)
 generalize World.drew w1 = u1 at hHeld S1 M1 HO ⊢; refine tz 0 ?_; refine tz 1 ?_; refine tz 2 ?_; refine tz 3 ?_; refine tz 5 ?_; refine tz 6 ?_; refine tz 7 ?_; refine tz 8 ?_; refine tz 9 ?_
 refine wpAnyH_ready (rs := [4, 10]) (by kernel_rfl) (by simp) ?_
 refine (ac rfl (fun K hK => ?_) (ac rfl (fun K hK => ?_) AllReadyH.nil))
 ·skip
  obtain ⟨hc, hf⟩ := S1.out.cm; go_simp; clear hc hf
  refine hK.out _ _ hHeld (fun hNew => ?_); clear hK K hHeld; have hHeld := hNew; clear hNew
  try simp only [Act.put, qqA, qqB, qqC]
  refine re1 10 (fun K hK => ?_)
  go_simp
  go_wp2_with (go_at_call 42; (with_reducible refine (mpair_p S1.out (by clear hw hw0; omega) x).mono ?_); rintro e w2 ⟨rfl, v2, s', m'⟩)
  replace HO := m'.two HO NO; clear NO; obtain ⟨HO, NO⟩ := HO
  refine hK.out _ _ ⟨HO.out.2.1, trivial⟩ (fun hNew => ?_); clear hK K hHeld; have hHeld := hNew; clear hNew
  have M2 := M1.tr m'; have S2 := Lib.hid s'; clear s' m'; refine tz 11 ?_; refine tz 12 ?_
  refine re1 13 (fun K hK => ?_)
  go_simp
  go_wp2_with (go_at_call 24; (with_reducible refine (WR.out _).mono ?_); rintro e u' ⟨rfl, rfl⟩)
  refine hK.out _ _ hHeld (fun hNew => ?_); clear hK K hHeld; have hHeld := hNew; clear hNew
  refine re1 14 (fun K hK => ?_)
  go_simp
  go_wp2_with (go_at_call 38; (with_reducible refine (setPair_r y.s.r x (dn (pairV y.s.r x)) (dn_b _).1 (dn_b _).2 _).mono ?_); rintro e w3 ⟨rfl, hb⟩)
  have s' := S2.out.below hb; have m' : PM P R M tb v2 w2 v2 w3 := PM.of hb; clear hb; replace HO := m'.two HO NO; clear NO; obtain ⟨HO, NO⟩ := HO
  refine hK.out _ _ ⟨HO.out.2.1, trivial⟩ (fun hNew => ?_); clear hK K hHeld; have hHeld := hNew; clear hNew
  have M3 := M2.tr m'; have S3 := Lib.hid s'; clear s' m'; refine tz 15 ?_; refine tz 16 ?_; refine tz 17 ?_; refine tz 18 ?_; refine tz 19 ?_
  refine re1 20 (fun K hK => ?_)
  obtain ⟨hc, hf⟩ := S3.out.cm; go_simp; clear hc hf; have q := S3.out.stR (setP y.s.r x (dn (pairV y.s.r x))) (setP_ok S3.out.ok x _ (dn_b _).1 (dn_b _).2); have s' := q.1; have m' := q.2; clear q; replace HO := m'.two HO NO; clear NO; obtain ⟨HO, NO⟩ := HO
  refine hK.out _ _ ⟨HO.out.2.1, trivial⟩ (fun hNew => ?_); clear hK K hHeld; have hHeld := hNew; clear hNew
  generalize (World.setCell (World.setCell (World.setCell (World.setCell (World.setCell (World.setCell (World.setCell (World.setCell (World.setCell (World.setCell w3 ⟨P, 0, none⟩ (.int .u8 (setP y.s.r x (dn (pairV y.s.r x))).a)) ⟨P, 1, none⟩ (.int .u8 (setP y.s.r x (dn (pairV y.s.r x))).f)) ⟨P, 2, none⟩ (.int .u8 (setP y.s.r x (dn (pairV y.s.r x))).b)) ⟨P, 3, none⟩ (.int .u8 (setP y.s.r x (dn (pairV y.s.r x))).c)) ⟨P, 4, none⟩ (.int .u8 (setP y.s.r x (dn (pairV y.s.r x))).d)) ⟨P, 5, none⟩ (.int .u8 (setP y.s.r x (dn (pairV y.s.r x))).e)) ⟨P, 6, none⟩ (.int .u8 (setP y.s.r x (dn (pairV y.s.r x))).h)) ⟨P, 7, none⟩ (.int .u8 (setP y.s.r x (dn (pairV y.s.r x))).l)) ⟨P, 8, none⟩ (.int .u16 (setP y.s.r x (dn (pairV y.s.r x))).sp)) ⟨P, 9, none⟩ (.int .u16 (setP y.s.r x (dn (pairV y.s.r x))).pc)) = w4 at hHeld s' m' HO ⊢; have M4 := M3.tr m'; obtain ⟨y4, hy⟩ : ∃ q_, q_ = setRR (setP y.s.r x (dn (pairV y.s.r x))) y := ⟨_, rfl⟩; rw [← hy] at s'; have Y4 := Lib.hid hy; clear hy; have S4 := Lib.hid s'; clear s' m'
  refine wpAnyH_done (by kernel_rfl) ?_ _
  obtain ⟨hc, hf⟩ := S4.out.cm; have ho := HO.out.2.1; clear hHeld; go_wp2_with fail
  with_reducible refine (midle_p S4.out (by clear hw hw0; omega)).mono ?_
  rintro e w5 ⟨rfl, v5, s', m'⟩; replace HO := m'.two HO NO; clear ho NO; obtain ⟨HO, NO⟩ := HO; have ho := HO.out.2.1; have M5 := M4.tr m'; obtain ⟨y5, hy⟩ : ∃ q_, q_ = idle y4 := ⟨_, rfl⟩; rw [← hy] at s'; have Y5 := Lib.hid hy; clear hy; clear hc hf; obtain ⟨hc, hf⟩ := s'.cm; have S5 := Lib.hid s'; clear s' m'; clear hw hw0; go_wp2; go_ret
  refine ⟨rfl, v5, ?_, M5.out⟩
  have q := S5.out; have e := Y5.out.symm; subst e; have e := Y4.out.symm; subst e
  exact q.mo
 ·skip
  go_simp
  go_wp2_with (go_at_call 42; (with_reducible refine (mpair_p S1.out (by clear hw hw0; omega) x).mono ?_); rintro e w2 ⟨rfl, v2, s', m'⟩)
  replace HO := m'.two HO NO; clear NO; obtain ⟨HO, NO⟩ := HO
  refine hK.out _ _ ⟨HO.out.2.1, trivial⟩ (fun hNew => ?_); clear hK K hHeld; have hHeld := hNew; clear hNew
  have M2 := M1.tr m'; have S2 := Lib.hid s'; clear s' m'; refine tz 11 ?_; refine tz 12 ?_
  refine wpAnyH_ready (rs := [4, 13]) (by kernel_rfl) (by simp) ?_
  refine (ac rfl (fun K hK => ?_) (ac rfl (fun K hK => ?_) AllReadyH.nil))
  ·skip
   obtain ⟨hc, hf⟩ := S2.out.cm; go_simp; clear hc hf
   refine hK.out _ _ hHeld (fun hNew => ?_); clear hK K hHeld; have hHeld := hNew; clear hNew
   try simp only [Act.put, qqA, qqB, qqC]
   refine re1 13 (fun K hK => ?_)
   go_simp
   go_wp2_with (go_at_call 24; (with_reducible refine (WR.out _).mono ?_); rintro e u' ⟨rfl, rfl⟩)
   refine hK.out _ _ hHeld (fun hNew => ?_); clear hK K hHeld; have hHeld := hNew; clear hNew
   refine re1 14 (fun K hK => ?_)
   go_simp
   go_wp2_with (go_at_call 38; (with_reducible refine (setPair_r y.s.r x (dn (pairV y.s.r x)) (dn_b _).1 (dn_b _).2 _).mono ?_); rintro e w3 ⟨rfl, hb⟩)
   have s' := S2.out.below hb; have m' : PM P R M tb v2 w2 v2 w3 := PM.of hb; clear hb; replace HO := m'.two HO NO; clear NO; obtain ⟨HO, NO⟩ := HO
   refine hK.out _ _ ⟨HO.out.2.1, trivial⟩ (fun hNew => ?_); clear hK K hHeld; have hHeld := hNew; clear hNew
   have M3 := M2.tr m'; have S3 := Lib.hid s'; clear s' m'; refine tz 15 ?_; refine tz 16 ?_; refine tz 17 ?_; refine tz 18 ?_; refine tz 19 ?_
   refine re1 20 (fun K hK => ?_)
   obtain ⟨hc, hf⟩ := S3.out.cm; go_simp; clear hc hf; have q := S3.out.stR (setP y.s.r x (dn (pairV y.s.r x))) (setP_ok S3.out.ok x _ (dn_b _).1 (dn_b _).2); have s' := q.1; have m' := q.2; clear q; replace HO := m'.two HO NO; clear NO; obtain ⟨HO, NO⟩ := HO
   refine hK.out _ _ ⟨HO.out.2.1, trivial⟩ (fun hNew => ?_); clear hK K hHeld; have hHeld := hNew; clear hNew
   generalize (World.setCell (World.setCell (World.setCell (World.setCell (World.setCell (World.setCell (World.setCell (World.setCell (World.setCell (World.setCell w3 ⟨P, 0, none⟩ (.int .u8 (setP y.s.r x (dn (pairV y.s.r x))).a)) ⟨P, 1, none⟩ (.int .u8 (setP y.s.r x (dn (pairV y.s.r x))).f)) ⟨P, 2, none⟩ (.int .u8 (setP y.s.r x (dn (pairV y.s.r x))).b)) ⟨P, 3, none⟩ (.int .u8 (setP y.s.r x (dn (pairV y.s.r x))).c)) ⟨P, 4, none⟩ (.int .u8 (setP y.s.r x (dn (pairV y.s.r x))).d)) ⟨P, 5, none⟩ (.int .u8 (setP y.s.r x (dn (pairV y.s.r x))).e)) ⟨P, 6, none⟩ (.int .u8 (setP y.s.r x (dn (pairV y.s.r x))).h)) ⟨P, 7, none⟩ (.int .u8 (setP y.s.r x (dn (pairV y.s.r x))).l)) ⟨P, 8, none⟩ (.int .u16 (setP y.s.r x (dn (pairV y.s.r x))).sp)) ⟨P, 9, none⟩ (.int .u16 (setP y.s.r x (dn (pairV y.s.r x))).pc)) = w4 at hHeld s' m' HO ⊢; have M4 := M3.tr m'; obtain ⟨y4, hy⟩ : ∃ q_, q_ = setRR (setP y.s.r x (dn (pairV y.s.r x))) y := ⟨_, rfl⟩; rw [← hy] at s'; have Y4 := Lib.hid hy; clear hy; have S4 := Lib.hid s'; clear s' m'
   refine wpAnyH_done (by kernel_rfl) ?_ _
   obtain ⟨hc, hf⟩ := S4.out.cm; have ho := HO.out.2.1; clear hHeld; go_wp2_with fail
   with_reducible refine (midle_p S4.out (by clear hw hw0; omega)).mono ?_
   rintro e w5 ⟨rfl, v5, s', m'⟩; replace HO := m'.two HO NO; clear ho NO; obtain ⟨HO, NO⟩ := HO; have ho := HO.out.2.1; have M5 := M4.tr m'; obtain ⟨y5, hy⟩ : ∃ q_, q_ = idle y4 := ⟨_, rfl⟩; rw [← hy] at s'; have Y5 := Lib.hid hy; clear hy; clear hc hf; obtain ⟨hc, hf⟩ := s'.cm; have S5 := Lib.hid s'; clear s' m'; clear hw hw0; go_wp2; go_ret
   refine ⟨rfl, v5, ?_, M5.out⟩
   have q := S5.out; have e := Y5.out.symm; subst e; have e := Y4.out.symm; subst e
   exact q.mo
  ·skip
   go_simp
   go_wp2_with (go_at_call 24; (with_reducible refine (WR.out _).mono ?_); rintro e u' ⟨rfl, rfl⟩)
   refine hK.out _ _ hHeld (fun hNew => ?_); clear hK K hHeld; have hHeld := hNew; clear hNew
   refine re1 4 (fun K hK => ?_)
   obtain ⟨hc, hf⟩ := S2.out.cm; go_simp; clear hc hf
   refine hK.out _ _ hHeld (fun hNew => ?_); clear hK K hHeld; have hHeld := hNew; clear hNew
   try simp only [Act.put, qqA, qqB, qqC]
   refine re1 14 (fun K hK => ?_)
   go_simp
   go_wp2_with (go_at_call 38; (with_reducible refine (setPair_r y.s.r x (dn (pairV y.s.r x)) (dn_b _).1 (dn_b _).2 _).mono ?_); rintro e w3 ⟨rfl, hb⟩)
   have s' := S2.out.below hb; have m' : PM P R M tb v2 w2 v2 w3 := PM.of hb; clear hb; replace HO := m'.two HO NO; clear NO; obtain ⟨HO, NO⟩ := HO
   refine hK.out _ _ ⟨HO.out.2.1, trivial⟩ (fun hNew => ?_); clear hK K hHeld; have hHeld := hNew; clear hNew
   have M3 := M2.tr m'; have S3 := Lib.hid s'; clear s' m'; refine tz 15 ?_; refine tz 16 ?_; refine tz 17 ?_; refine tz 18 ?_; refine tz 19 ?_
   refine re1 20 (fun K hK => ?_)
   obtain ⟨hc, hf⟩ := S3.out.cm; go_simp; clear hc hf; have q := S3.out.stR (setP y.s.r x (dn (pairV y.s.r x))) (setP_ok S3.out.ok x _ (dn_b _).1 (dn_b _).2); have s' := q.1; have m' := q.2; clear q; replace HO := m'.two HO NO; clear NO; obtain ⟨HO, NO⟩ := HO
   refine hK.out _ _ ⟨HO.out.2.1, trivial⟩ (fun hNew => ?_); clear hK K hHeld; have hHeld := hNew; clear hNew
   generalize (World.setCell (World.setCell (World.setCell (World.setCell (World.setCell (World.setCell (World.setCell (World.setCell (World.setCell (World.setCell w3 ⟨P, 0, none⟩ (.int .u8 (setP y.s.r x (dn (pairV y.s.r x))).a)) ⟨P, 1, none⟩ (.int .u8 (setP y.s.r x (dn (pairV y.s.r x))).f)) ⟨P, 2, none⟩ (.int .u8 (setP y.s.r x (dn (pairV y.s.r x))).b)) ⟨P, 3, none⟩ (.int .u8 (setP y.s.r x (dn (pairV y.s.r x))).c)) ⟨P, 4, none⟩ (.int .u8 (setP y.s.r x (dn (pairV y.s.r x))).d)) ⟨P, 5, none⟩ (.int .u8 (setP y.s.r x (dn (pairV y.s.r x))).e)) ⟨P, 6, none⟩ (.int .u8 (setP y.s.r x (dn (pairV y.s.r x))).h)) ⟨P, 7, none⟩ (.int .u8 (setP y.s.r x (dn (pairV y.s.r x))).l)) ⟨P, 8, none⟩ (.int .u16 (setP y.s.r x (dn (pairV y.s.r x))).sp)) ⟨P, 9, none⟩ (.int .u16 (setP y.s.r x (dn (pairV y.s.r x))).pc)) = w4 at hHeld s' m' HO ⊢; have M4 := M3.tr m'; obtain ⟨y4, hy⟩ : ∃ q_, q_ = setRR (setP y.s.r x (dn (pairV y.s.r x))) y := ⟨_, rfl⟩; rw [← hy] at s'; have Y4 := Lib.hid hy; clear hy; have S4 := Lib.hid s'; clear s' m'
   refine wpAnyH_done (by kernel_rfl) ?_ _
   obtain ⟨hc, hf⟩ := S4.out.cm; have ho := HO.out.2.1; clear hHeld; go_wp2_with fail
   with_reducible refine (midle_p S4.out (by clear hw hw0; omega)).mono ?_
   rintro e w5 ⟨rfl, v5, s', m'⟩; replace HO := m'.two HO NO; clear ho NO; obtain ⟨HO, NO⟩ := HO; have ho := HO.out.2.1; have M5 := M4.tr m'; obtain ⟨y5, hy⟩ : ∃ q_, q_ = idle y4 := ⟨_, rfl⟩; rw [← hy] at s'; have Y5 := Lib.hid hy; clear hy; clear hc hf; obtain ⟨hc, hf⟩ := s'.cm; have S5 := Lib.hid s'; clear s' m'; clear hw hw0; go_wp2; go_ret
   refine ⟨rfl, v5, ?_, M5.out⟩
   have q := S5.out; have e := Y5.out.symm; subst e; have e := Y4.out.symm; subst e
   exact q.mo
theorem d_16 (h0 : Sys noD memC w P R M tb v y n) (hn : n < 900000) (x yy s nn nl at_ : Int) (n0 : 0 ≤ nn) (n1 : nn < 65536) (hnl : nn % 256 = nl) : Calls Tryz.prog 26 #[.pointer (some ⟨P, 0, none⟩), .pointer (some ⟨R, 0, none⟩), .agg #[.int .i64 16, .int .i64 x, .int .i64 yy, .int .i64 s, .int .u16 nn], .int .u16 at_] w (PE noD memC P R M tb v w (.bool true) (setF (Alu.add16F (hlV y) (pairV y.s.r x) y.s.r.f) (pairS 2 ((hlV y + pairV y.s.r x) % 65536) (idle y))) (n + 4)) := by
 have f0 := h0.ok.2.1.1; have f1 := h0.ok.2.1.2
 have b2 : 0 ≤ nl ∧ nl < 256 := by omega
 have NB := Lib.hid b2
 have e2 : nn.tmod 256 = nl := by rw [Int.tmod_eq_emod_of_nonneg n0]; exact hnl
 have e4 : IntKind.u16.wrap nl = nl := IntWalk.u16_in nl (by omega); have e6 : nl % 256 = nl := Int.emod_eq_of_lt b2.1 b2.2; have F := Lib.hid (And.intro f0 f1); have HNL := Lib.hid hnl; clear b2 hnl
 have hnot := nt
 obtain ⟨S0, M0, HO, NO⟩ := h0.beg #[.int .i64 16, .int .i64 x, .int .i64 yy, .int .i64 s, .int .u16 nn] 47; obtain ⟨hc, hf⟩ := S0.out.cm; clear h0; go_enter Tryz.func26, Tryz.ntmps26; go_upto_region 1 with (fail); generalize w.alloc (.cells #[.int .i64 16, .int .i64 x, .int .i64 yy, .int .i64 s, .int .u16 nn] 47) = w0 at S0 M0 HO hc hf ⊢; generalize w.heap.size = ob at HO NO ⊢; have ho := HO.out.2.1; go_wp2_with fail
 with_reducible refine (Alu.z_r y.s.r.f F.out.1 F.out.2 _).mono ?_
 rintro e w_ ⟨rfl, rfl⟩; go_wp2_with fail
 with_reducible refine (Alu.c_r y.s.r.f F.out.1 F.out.2 _).mono ?_
 rintro e w_ ⟨rfl, rfl⟩; go_upto_region 4 with (fail); clear e2 e4 e6; replace S0 := Lib.hid S0.out.drew; replace M0 := Lib.hid (M0.out.trans (PM.drew P R M tb v w0)); replace HO := Lib.hid HO.out.drew; clear ho hc hf
 refine rh HO (fun hHeld => ?_)
 generalize World.drew w0 = u0 at hHeld S0 M0 HO ⊢; refine tz 0 ?_; refine tz 1 ?_; refine tz 2 ?_; refine tz 4 ?_; refine tz 5 ?_
 refine re1 3 (fun K hK => ?_)
 obtain ⟨hc, hf⟩ := S0.out.cm; go_simp; clear hc hf
 refine hK.out _ _ hHeld (fun hNew => ?_); clear hK K hHeld; have hHeld := hNew; clear hNew
 try simp only [Act.put, qqA, qqB, qqC]
 refine re1 6 (fun K hK => ?_)
 go_simp
 go_wp2_with (go_at_call 35; (with_reducible refine (Reg.is_r y.s.r x F.out.1 F.out.2 _).mono ?_); rintro e w1 ⟨rfl, hb⟩)
 have s' := S0.out.below hb; have m' : PM P R M tb v u0 v w1 := PM.of hb; clear hb; replace HO := m'.two HO NO; clear NO; obtain ⟨HO, NO⟩ := HO
 refine hK.out _ _ ⟨HO.out.2.1, trivial⟩ (fun hNew => ?_); clear hK K hHeld; have hHeld := hNew; clear hNew
 have M1 := M0.tr m'; have S1 := Lib.hid s'; clear s' m'; refine tz 7 ?_
 refine wpAnyH_done (by kernel_rfl) ?_ _
 obtain ⟨hc, hf⟩ := S1.out.cm; have ho := HO.out.2.1; clear hHeld; have hl := pairV_b S1.out.ok 2; have px := pairV_b S1.out.ok x; have AD := Lib.hid (Alu.add16_r (pairV y.s.r 2) (pairV y.s.r x) y.s.r.f hl.1 hl.2 px.1 px.2 F.out.1 F.out.2)
 have SM : 0 ≤ (pairV y.s.r 2 + pairV y.s.r x) % 65536 ∧ (pairV y.s.r 2 + pairV y.s.r x) % 65536 < 65536 := by omega
 have SMH := Lib.hid SM; clear hl px SM; go_upto_region 41 with (fail); replace S1 := Lib.hid S1.out.drew; replace M1 := Lib.hid (M1.out.trans (PM.drew P R M tb v w1)); replace HO := Lib.hid HO.out.drew; clear ho hc hf
 refine rh HO (fun hHeld => ?_)
 generalize World.drew w1 = u1 at hHeld S1 M1 HO ⊢; refine tz 0 ?_; refine tz 2 ?_; refine tz 3 ?_; refine tz 4 ?_; refine tz 6 ?_
 refine re1 1 (fun K hK => ?_)
 go_simp
 go_wp2_with (go_at_call 42; (with_reducible refine (mpair_p S1.out (by omega) 2).mono ?_); rintro e w2 ⟨rfl, v2, s', m'⟩)
 replace HO := m'.two HO NO; clear NO; obtain ⟨HO, NO⟩ := HO
 refine hK.out _ _ ⟨HO.out.2.1, trivial⟩ (fun hNew => ?_); clear hK K hHeld; have hHeld := hNew; clear hNew
 have M2 := M1.tr m'; have S2 := Lib.hid s'; clear s' m'
 refine re1 5 (fun K hK => ?_)
 go_simp
 go_wp2_with (go_at_call 42; (with_reducible refine (mpair_p S2.out (by omega) x).mono ?_); rintro e w3 ⟨rfl, v3, s', m'⟩)
 replace HO := m'.two HO NO; clear NO; obtain ⟨HO, NO⟩ := HO
 refine hK.out _ _ ⟨HO.out.2.1, trivial⟩ (fun hNew => ?_); clear hK K hHeld; have hHeld := hNew; clear hNew
 have M3 := M2.tr m'; have S3 := Lib.hid s'; clear s' m'
 refine re1 7 (fun K hK => ?_)
 go_simp
 go_wp2_with (go_at_call 43; (with_reducible refine (AD.out _).mono ?_); rintro e u' ⟨rfl, rfl⟩)
 refine hK.out _ _ hHeld (fun hNew => ?_); clear hK K hHeld; have hHeld := hNew; clear hNew
 refine tz 8 ?_; refine tz 9 ?_; refine tz 10 ?_; refine tz 11 ?_; refine tz 12 ?_
 refine wpAnyH_done (by kernel_rfl) ?_ _
 obtain ⟨hc, hf⟩ := S3.out.cm; have ho := HO.out.2.1; clear hHeld; go_wp2_with fail
 with_reducible refine (setPair_r y.s.r 2 ((pairV y.s.r 2 + pairV y.s.r x) % 65536) SMH.out.1 SMH.out.2 _).mono ?_
 rintro e w4 ⟨rfl, hb⟩; have s' := S3.out.below hb; have m' : PM P R M tb v3 w3 v3 w4 := PM.of hb; clear hb; replace HO := m'.two HO NO; clear ho NO; obtain ⟨HO, NO⟩ := HO; have ho := HO.out.2.1; have M4 := M3.tr m'; clear hc hf; obtain ⟨hc, hf⟩ := s'.cm; have S4 := Lib.hid s'; clear s' m'; go_wp2_with fail; have q := S4.out.stR (setP y.s.r 2 ((pairV y.s.r 2 + pairV y.s.r x) % 65536)) (setP_ok S4.out.ok 2 _ SMH.out.1 SMH.out.2); have s' := q.1; have m' := q.2; clear q; generalize (World.setCell (World.setCell (World.setCell (World.setCell (World.setCell (World.setCell (World.setCell (World.setCell (World.setCell (World.setCell w4 ⟨P, 0, none⟩ (.int .u8 (setP y.s.r 2 ((pairV y.s.r 2 + pairV y.s.r x) % 65536)).a)) ⟨P, 1, none⟩ (.int .u8 (setP y.s.r 2 ((pairV y.s.r 2 + pairV y.s.r x) % 65536)).f)) ⟨P, 2, none⟩ (.int .u8 (setP y.s.r 2 ((pairV y.s.r 2 + pairV y.s.r x) % 65536)).b)) ⟨P, 3, none⟩ (.int .u8 (setP y.s.r 2 ((pairV y.s.r 2 + pairV y.s.r x) % 65536)).c)) ⟨P, 4, none⟩ (.int .u8 (setP y.s.r 2 ((pairV y.s.r 2 + pairV y.s.r x) % 65536)).d)) ⟨P, 5, none⟩ (.int .u8 (setP y.s.r 2 ((pairV y.s.r 2 + pairV y.s.r x) % 65536)).e)) ⟨P, 6, none⟩ (.int .u8 (setP y.s.r 2 ((pairV y.s.r 2 + pairV y.s.r x) % 65536)).h)) ⟨P, 7, none⟩ (.int .u8 (setP y.s.r 2 ((pairV y.s.r 2 + pairV y.s.r x) % 65536)).l)) ⟨P, 8, none⟩ (.int .u16 (setP y.s.r 2 ((pairV y.s.r 2 + pairV y.s.r x) % 65536)).sp)) ⟨P, 9, none⟩ (.int .u16 (setP y.s.r 2 ((pairV y.s.r 2 + pairV y.s.r x) % 65536)).pc)) = w5 at s' m' ⊢
 replace HO := m'.two HO NO; clear ho NO; obtain ⟨HO, NO⟩ := HO; have ho := HO.out.2.1; have M5 := M4.tr m'; obtain ⟨y5, hy⟩ : ∃ q_, q_ = setRR (setP y.s.r 2 ((pairV y.s.r 2 + pairV y.s.r x) % 65536)) y := ⟨_, rfl⟩; rw [← hy] at s'; have Y5 := Lib.hid hy; clear hy; clear hc hf; obtain ⟨hc, hf⟩ := s'.cm; have S5 := Lib.hid s'; clear s' m'; have q := S5.out.stF (Alu.add16F (pairV y.s.r 2) (pairV y.s.r x) y.s.r.f) (Alu.FL_b _ _ _ _).1 (Alu.FL_b _ _ _ _).2; have s' := q.1; have m' := q.2; clear q; generalize (World.setCell w5 ⟨P, 1, none⟩ (.int .u8 (Alu.add16F (pairV y.s.r 2) (pairV y.s.r x) y.s.r.f))) = w6 at s' m' ⊢; replace HO := m'.two HO NO; clear ho NO; obtain ⟨HO, NO⟩ := HO; have ho := HO.out.2.1; have M6 := M5.tr m'; obtain ⟨y6, hy⟩ : ∃ q_, q_ = setF (Alu.add16F (pairV y.s.r 2) (pairV y.s.r x) y.s.r.f) y5 := ⟨_, rfl⟩; rw [← hy] at s'; have Y6 := Lib.hid hy; clear hy; clear hc hf; obtain ⟨hc, hf⟩ := s'.cm; have S6 := Lib.hid s'; clear s' m'
 with_reducible refine (midle_p S6.out (by omega)).mono ?_
 rintro e w7 ⟨rfl, v7, s', m'⟩; replace HO := m'.two HO NO; clear ho NO; obtain ⟨HO, NO⟩ := HO; have ho := HO.out.2.1; have M7 := M6.tr m'; obtain ⟨y7, hy⟩ : ∃ q_, q_ = idle y6 := ⟨_, rfl⟩; rw [← hy] at s'; have Y7 := Lib.hid hy; clear hy; clear hc hf; obtain ⟨hc, hf⟩ := s'.cm; have S7 := Lib.hid s'; clear s' m'; go_wp2; go_ret
 refine ⟨rfl, v7, ?_, M7.out⟩
 have q := S7.out; have e := Y7.out.symm; subst e; have e := Y6.out.symm; subst e; have e := Y5.out.symm; subst e
 exact q.mo
theorem d_17 (h0 : Sys noD memC w P R M tb v y n) (hn : n < 900000) (x yy s nn nl at_ : Int) (n0 : 0 ≤ nn) (n1 : nn < 65536) (hnl : nn % 256 = nl) : Calls Tryz.prog 26 #[.pointer (some ⟨P, 0, none⟩), .pointer (some ⟨R, 0, none⟩), .agg #[.int .i64 17, .int .i64 x, .int .i64 yy, .int .i64 s, .int .u16 nn], .int .u16 at_] w (PE noD memC P R M tb v w (.bool true) (setF (Alu.turnF x (getY yy y) y.s.r.f) (putS yy (Alu.turnR x (getY yy y) y.s.r.f) (getS yy y))) (n + 4)) := by
 have f0 := h0.ok.2.1.1; have f1 := h0.ok.2.1.2
 have b2 : 0 ≤ nl ∧ nl < 256 := by omega
 have NB := Lib.hid b2
 have e2 : nn.tmod 256 = nl := by rw [Int.tmod_eq_emod_of_nonneg n0]; exact hnl
 have e4 : IntKind.u16.wrap nl = nl := IntWalk.u16_in nl (by omega); have e6 : nl % 256 = nl := Int.emod_eq_of_lt b2.1 b2.2; have F := Lib.hid (And.intro f0 f1); have HNL := Lib.hid hnl; clear b2 hnl
 have hnot := nt
 obtain ⟨S0, M0, HO, NO⟩ := h0.beg #[.int .i64 17, .int .i64 x, .int .i64 yy, .int .i64 s, .int .u16 nn] 47; obtain ⟨hc, hf⟩ := S0.out.cm; clear h0; go_enter Tryz.func26, Tryz.ntmps26; go_upto_region 1 with (fail); generalize w.alloc (.cells #[.int .i64 17, .int .i64 x, .int .i64 yy, .int .i64 s, .int .u16 nn] 47) = w0 at S0 M0 HO hc hf ⊢; generalize w.heap.size = ob at HO NO ⊢; have ho := HO.out.2.1; go_wp2_with fail
 with_reducible refine (Alu.z_r y.s.r.f F.out.1 F.out.2 _).mono ?_
 rintro e w_ ⟨rfl, rfl⟩; go_wp2_with fail
 with_reducible refine (Alu.c_r y.s.r.f F.out.1 F.out.2 _).mono ?_
 rintro e w_ ⟨rfl, rfl⟩; go_upto_region 4 with (fail); clear e2 e4 e6; replace S0 := Lib.hid S0.out.drew; replace M0 := Lib.hid (M0.out.trans (PM.drew P R M tb v w0)); replace HO := Lib.hid HO.out.drew; clear ho hc hf
 refine rh HO (fun hHeld => ?_)
 generalize World.drew w0 = u0 at hHeld S0 M0 HO ⊢; refine tz 0 ?_; refine tz 1 ?_; refine tz 2 ?_; refine tz 4 ?_; refine tz 5 ?_
 refine re1 3 (fun K hK => ?_)
 obtain ⟨hc, hf⟩ := S0.out.cm; go_simp; clear hc hf
 refine hK.out _ _ hHeld (fun hNew => ?_); clear hK K hHeld; have hHeld := hNew; clear hNew
 try simp only [Act.put, qqA, qqB, qqC]
 refine re1 6 (fun K hK => ?_)
 go_simp
 go_wp2_with (go_at_call 35; (with_reducible refine (Reg.is_r y.s.r x F.out.1 F.out.2 _).mono ?_); rintro e w1 ⟨rfl, hb⟩)
 have s' := S0.out.below hb; have m' : PM P R M tb v u0 v w1 := PM.of hb; clear hb; replace HO := m'.two HO NO; clear NO; obtain ⟨HO, NO⟩ := HO
 refine hK.out _ _ ⟨HO.out.2.1, trivial⟩ (fun hNew => ?_); clear hK K hHeld; have hHeld := hNew; clear hNew
 have M1 := M0.tr m'; have S1 := Lib.hid s'; clear s' m'; refine tz 7 ?_
 refine wpAnyH_done (by kernel_rfl) ?_ _
 obtain ⟨hc, hf⟩ := S1.out.cm; have ho := HO.out.2.1; clear hHeld; have gb := S1.out.getb yy; have tb_ := turnR_b x (getY yy y) y.s.r.f gb.1 gb.2; go_upto_region 46 with (fail); replace S1 := Lib.hid S1.out.drew; replace M1 := Lib.hid (M1.out.trans (PM.drew P R M tb v w1)); replace HO := Lib.hid HO.out.drew; clear ho hc hf
 refine rh HO (fun hHeld => ?_)
 generalize World.drew w1 = u1 at hHeld S1 M1 HO ⊢; refine tz 0 ?_; refine tz 1 ?_; refine tz 2 ?_; refine tz 3 ?_; refine tz 4 ?_; refine tz 5 ?_; refine tz 7 ?_
 refine re1 6 (fun K hK => ?_)
 go_simp
 go_wp2_with (go_at_call 37; (with_reducible refine (mget_p S1.out (by omega) yy).mono ?_); rintro e w2 ⟨rfl, v2, s', m'⟩)
 replace HO := m'.two HO NO; clear NO; obtain ⟨HO, NO⟩ := HO
 refine hK.out _ _ ⟨HO.out.2.1, trivial⟩ (fun hNew => ?_); clear hK K hHeld; have hHeld := hNew; clear hNew
 have M2 := M1.tr m'; obtain ⟨y2, hy⟩ : ∃ q_, q_ = getS yy y := ⟨_, rfl⟩; rw [← hy] at s'; have Y2 := Lib.hid hy; clear hy; have S2 := Lib.hid s'; clear s' m'
 refine re1 8 (fun K hK => ?_)
 go_simp
 go_wp2_with (go_at_call 44; (with_reducible refine (Alu.turn_r x (getY yy y) y.s.r.f gb.1 gb.2 F.out.1 F.out.2 _).mono ?_); rintro e w3 ⟨rfl, hb⟩)
 have s' := S2.out.below hb; have m' : PM P R M tb v2 w2 v2 w3 := PM.of hb; clear hb; replace HO := m'.two HO NO; clear NO; obtain ⟨HO, NO⟩ := HO
 refine hK.out _ _ ⟨HO.out.2.1, trivial⟩ (fun hNew => ?_); clear hK K hHeld; have hHeld := hNew; clear hNew
 have M3 := M2.tr m'; have S3 := Lib.hid s'; clear s' m'; refine tz 9 ?_; refine tz 10 ?_; refine tz 11 ?_; refine tz 12 ?_; refine tz 13 ?_
 refine wpAnyH_done (by kernel_rfl) ?_ _
 obtain ⟨hc, hf⟩ := S3.out.cm; have ho := HO.out.2.1; clear hHeld; go_wp2_with fail
 with_reducible refine (mset_p S3.out (by omega) yy (Alu.turnR x (getY yy y) y.s.r.f) tb_.1 tb_.2).mono ?_
 rintro e w4 ⟨rfl, v4, s', m'⟩; replace HO := m'.two HO NO; clear ho NO; obtain ⟨HO, NO⟩ := HO; have ho := HO.out.2.1; have M4 := M3.tr m'; obtain ⟨y4, hy⟩ : ∃ q_, q_ = putS yy (Alu.turnR x (getY yy y) y.s.r.f) y2 := ⟨_, rfl⟩; rw [← hy] at s'; have Y4 := Lib.hid hy; clear hy; clear hc hf; obtain ⟨hc, hf⟩ := s'.cm; have S4 := Lib.hid s'; clear s' m'; have Q0 := Lib.hid (S4.out.stF (Alu.turnF x (getY yy y) y.s.r.f) (Alu.FL_b _ _ _ _).1 (Alu.FL_b _ _ _ _).2)
 (go_wp2; go_ret)
 refine ⟨rfl, v4, ?_, (M4.out.trans Q0.out.2)⟩
 have q := Q0.out.1; have e := Y4.out.symm; subst e; have e := Y2.out.symm; subst e
 exact q.mo
theorem d_18 (h0 : Sys noD memC w P R M tb v y n) (hn : n < 900000) (x yy s nn nl at_ : Int) (n0 : 0 ≤ nn) (n1 : nn < 65536) (hnl : nn % 256 = nl) : Calls Tryz.prog 26 #[.pointer (some ⟨P, 0, none⟩), .pointer (some ⟨R, 0, none⟩), .agg #[.int .i64 18, .int .i64 x, .int .i64 yy, .int .i64 s, .int .u16 nn], .int .u16 at_] w (PE noD memC P R M tb v w (.bool true) (setF (Alu.FL false false false (Alu.cf (Alu.turnF x y.s.r.a y.s.r.f))) (setA (Alu.turnR x y.s.r.a y.s.r.f) y)) (n + 4)) := by
 have f0 := h0.ok.2.1.1; have f1 := h0.ok.2.1.2
 have b2 : 0 ≤ nl ∧ nl < 256 := by omega
 have NB := Lib.hid b2
 have e2 : nn.tmod 256 = nl := by rw [Int.tmod_eq_emod_of_nonneg n0]; exact hnl
 have e4 : IntKind.u16.wrap nl = nl := IntWalk.u16_in nl (by omega); have e6 : nl % 256 = nl := Int.emod_eq_of_lt b2.1 b2.2; have F := Lib.hid (And.intro f0 f1); have HNL := Lib.hid hnl; clear b2 hnl
 have hnot := nt
 obtain ⟨S0, M0, HO, NO⟩ := h0.beg #[.int .i64 18, .int .i64 x, .int .i64 yy, .int .i64 s, .int .u16 nn] 47; obtain ⟨hc, hf⟩ := S0.out.cm; clear h0; go_enter Tryz.func26, Tryz.ntmps26; go_upto_region 1 with (fail); generalize w.alloc (.cells #[.int .i64 18, .int .i64 x, .int .i64 yy, .int .i64 s, .int .u16 nn] 47) = w0 at S0 M0 HO hc hf ⊢; generalize w.heap.size = ob at HO NO ⊢; have ho := HO.out.2.1; go_wp2_with fail
 with_reducible refine (Alu.z_r y.s.r.f F.out.1 F.out.2 _).mono ?_
 rintro e w_ ⟨rfl, rfl⟩; go_wp2_with fail
 with_reducible refine (Alu.c_r y.s.r.f F.out.1 F.out.2 _).mono ?_
 rintro e w_ ⟨rfl, rfl⟩; go_upto_region 4 with (fail); clear e2 e4 e6; replace S0 := Lib.hid S0.out.drew; replace M0 := Lib.hid (M0.out.trans (PM.drew P R M tb v w0)); replace HO := Lib.hid HO.out.drew; clear ho hc hf
 refine rh HO (fun hHeld => ?_)
 generalize World.drew w0 = u0 at hHeld S0 M0 HO ⊢; refine tz 0 ?_; refine tz 1 ?_; refine tz 2 ?_; refine tz 4 ?_; refine tz 5 ?_
 refine re1 3 (fun K hK => ?_)
 obtain ⟨hc, hf⟩ := S0.out.cm; go_simp; clear hc hf
 refine hK.out _ _ hHeld (fun hNew => ?_); clear hK K hHeld; have hHeld := hNew; clear hNew
 try simp only [Act.put, qqA, qqB, qqC]
 refine re1 6 (fun K hK => ?_)
 go_simp
 go_wp2_with (go_at_call 35; (with_reducible refine (Reg.is_r y.s.r x F.out.1 F.out.2 _).mono ?_); rintro e w1 ⟨rfl, hb⟩)
 have s' := S0.out.below hb; have m' : PM P R M tb v u0 v w1 := PM.of hb; clear hb; replace HO := m'.two HO NO; clear NO; obtain ⟨HO, NO⟩ := HO
 refine hK.out _ _ ⟨HO.out.2.1, trivial⟩ (fun hNew => ?_); clear hK K hHeld; have hHeld := hNew; clear hNew
 have M1 := M0.tr m'; have S1 := Lib.hid s'; clear s' m'; refine tz 7 ?_
 refine wpAnyH_done (by kernel_rfl) ?_ _
 obtain ⟨hc, hf⟩ := S1.out.cm; have ho := HO.out.2.1; clear hHeld; have ab := S1.out.ok.1; have tb_ := turnR_b x y.s.r.a y.s.r.f ab.1 ab.2; have tf : 0 ≤ (Alu.turnF x y.s.r.a y.s.r.f) ∧ (Alu.turnF x y.s.r.a y.s.r.f) < 256 := Alu.FL_b _ _ _ _; go_upto_region 50 with (fail); replace S1 := Lib.hid S1.out.drew; replace M1 := Lib.hid (M1.out.trans (PM.drew P R M tb v w1)); replace HO := Lib.hid HO.out.drew; clear ho hc hf
 refine rh HO (fun hHeld => ?_)
 generalize World.drew w1 = u1 at hHeld S1 M1 HO ⊢; refine tz 0 ?_; refine tz 1 ?_; refine tz 2 ?_; refine tz 3 ?_; refine tz 4 ?_; refine tz 5 ?_; refine tz 7 ?_
 refine re1 6 (fun K hK => ?_)
 obtain ⟨hc, hf⟩ := S1.out.cm; go_simp; clear hc hf
 refine hK.out _ _ hHeld (fun hNew => ?_); clear hK K hHeld; have hHeld := hNew; clear hNew
 try simp only [Act.put, qqA, qqB, qqC]
 refine re1 8 (fun K hK => ?_)
 go_simp
 go_wp2_with (go_at_call 44; (with_reducible refine (Alu.turn_r x y.s.r.a y.s.r.f ab.1 ab.2 F.out.1 F.out.2 _).mono ?_); rintro e w2 ⟨rfl, hb⟩)
 have s' := S1.out.below hb; have m' : PM P R M tb v u1 v w2 := PM.of hb; clear hb; replace HO := m'.two HO NO; clear NO; obtain ⟨HO, NO⟩ := HO
 refine hK.out _ _ ⟨HO.out.2.1, trivial⟩ (fun hNew => ?_); clear hK K hHeld; have hHeld := hNew; clear hNew
 have M2 := M1.tr m'; have S2 := Lib.hid s'; clear s' m'; refine tz 9 ?_; refine tz 10 ?_; refine tz 11 ?_; refine tz 12 ?_; refine tz 13 ?_
 refine wpAnyH_done (by kernel_rfl) ?_ _
 obtain ⟨hc, hf⟩ := S2.out.cm; have ho := HO.out.2.1; clear hHeld; go_wp2_with fail; have q := S2.out.stA (Alu.turnR x y.s.r.a y.s.r.f) tb_.1 tb_.2; have s' := q.1; have m' := q.2; clear q; generalize (World.setCell w2 ⟨P, 0, none⟩ (.int .u8 (Alu.turnR x y.s.r.a y.s.r.f))) = w3 at s' m' ⊢; replace HO := m'.two HO NO; clear ho NO; obtain ⟨HO, NO⟩ := HO; have ho := HO.out.2.1; have M3 := M2.tr m'; obtain ⟨y3, hy⟩ : ∃ q_, q_ = setA (Alu.turnR x y.s.r.a y.s.r.f) y := ⟨_, rfl⟩; rw [← hy] at s'; have Y3 := Lib.hid hy; clear hy; clear hc hf; obtain ⟨hc, hf⟩ := s'.cm; have S3 := Lib.hid s'; clear s' m'
 with_reducible refine (Alu.c_r (Alu.turnF x y.s.r.a y.s.r.f) tf.1 tf.2 _).mono ?_
 rintro e w_ ⟨rfl, rfl⟩; go_wp2_with fail
 with_reducible refine (Alu.flags_r false false false (Alu.cf (Alu.turnF x y.s.r.a y.s.r.f)) _).mono ?_
 rintro e w_ ⟨rfl, rfl⟩; have Q0 := Lib.hid (S3.out.stF (Alu.FL false false false (Alu.cf (Alu.turnF x y.s.r.a y.s.r.f))) (Alu.FL_b _ _ _ _).1 (Alu.FL_b _ _ _ _).2)
 (go_wp2; go_ret)
 refine ⟨rfl, v, ?_, (M3.out.trans Q0.out.2)⟩
 have q := Q0.out.1; have e := Y3.out.symm; subst e
 exact q.mo
theorem d_19 (h0 : Sys noD memC w P R M tb v y n) (hn : n < 900000) (x yy s nn nl at_ : Int) (n0 : 0 ≤ nn) (n1 : nn < 65536) (hnl : nn % 256 = nl) : Calls Tryz.prog 26 #[.pointer (some ⟨P, 0, none⟩), .pointer (some ⟨R, 0, none⟩), .agg #[.int .i64 19, .int .i64 x, .int .i64 yy, .int .i64 s, .int .u16 nn], .int .u16 at_] w (PE noD memC P R M tb v w (.bool true) (setF (Alu.daaF y.s.r.a y.s.r.f) (setA (Alu.daaR y.s.r.a y.s.r.f) y)) (n + 4)) := by
 have f0 := h0.ok.2.1.1; have f1 := h0.ok.2.1.2
 have b2 : 0 ≤ nl ∧ nl < 256 := by omega
 have NB := Lib.hid b2
 have e2 : nn.tmod 256 = nl := by rw [Int.tmod_eq_emod_of_nonneg n0]; exact hnl
 have e4 : IntKind.u16.wrap nl = nl := IntWalk.u16_in nl (by omega); have e6 : nl % 256 = nl := Int.emod_eq_of_lt b2.1 b2.2; have F := Lib.hid (And.intro f0 f1); have HNL := Lib.hid hnl; clear b2 hnl
 have hnot := nt
 obtain ⟨S0, M0, HO, NO⟩ := h0.beg #[.int .i64 19, .int .i64 x, .int .i64 yy, .int .i64 s, .int .u16 nn] 47; obtain ⟨hc, hf⟩ := S0.out.cm; clear h0; go_enter Tryz.func26, Tryz.ntmps26; go_upto_region 1 with (fail); generalize w.alloc (.cells #[.int .i64 19, .int .i64 x, .int .i64 yy, .int .i64 s, .int .u16 nn] 47) = w0 at S0 M0 HO hc hf ⊢; generalize w.heap.size = ob at HO NO ⊢; have ho := HO.out.2.1; go_wp2_with fail
 with_reducible refine (Alu.z_r y.s.r.f F.out.1 F.out.2 _).mono ?_
 rintro e w_ ⟨rfl, rfl⟩; go_wp2_with fail
 with_reducible refine (Alu.c_r y.s.r.f F.out.1 F.out.2 _).mono ?_
 rintro e w_ ⟨rfl, rfl⟩; go_upto_region 4 with (fail); clear e2 e4 e6; replace S0 := Lib.hid S0.out.drew; replace M0 := Lib.hid (M0.out.trans (PM.drew P R M tb v w0)); replace HO := Lib.hid HO.out.drew; clear ho hc hf
 refine rh HO (fun hHeld => ?_)
 generalize World.drew w0 = u0 at hHeld S0 M0 HO ⊢; refine tz 0 ?_; refine tz 1 ?_; refine tz 2 ?_; refine tz 4 ?_; refine tz 5 ?_
 refine re1 3 (fun K hK => ?_)
 obtain ⟨hc, hf⟩ := S0.out.cm; go_simp; clear hc hf
 refine hK.out _ _ hHeld (fun hNew => ?_); clear hK K hHeld; have hHeld := hNew; clear hNew
 try simp only [Act.put, qqA, qqB, qqC]
 refine re1 6 (fun K hK => ?_)
 go_simp
 go_wp2_with (go_at_call 35; (with_reducible refine (Reg.is_r y.s.r x F.out.1 F.out.2 _).mono ?_); rintro e w1 ⟨rfl, hb⟩)
 have s' := S0.out.below hb; have m' : PM P R M tb v u0 v w1 := PM.of hb; clear hb; replace HO := m'.two HO NO; clear NO; obtain ⟨HO, NO⟩ := HO
 refine hK.out _ _ ⟨HO.out.2.1, trivial⟩ (fun hNew => ?_); clear hK K hHeld; have hHeld := hNew; clear hNew
 have M1 := M0.tr m'; have S1 := Lib.hid s'; clear s' m'; refine tz 7 ?_
 refine wpAnyH_done (by kernel_rfl) ?_ _
 obtain ⟨hc, hf⟩ := S1.out.cm; have ho := HO.out.2.1; clear hHeld; have ab := S1.out.ok.1; go_wp2_with fail
 with_reducible refine (Alu.daa_r y.s.r.a y.s.r.f ab.1 ab.2 F.out.1 F.out.2 _).mono ?_
 rintro e w_ ⟨rfl, rfl⟩; have Q0 := Lib.hid (S1.out.stA (Alu.daaR y.s.r.a y.s.r.f) (daaR_b _ _).1 (daaR_b _ _).2); have Q1 := Lib.hid (Q0.out.1.stF (Alu.daaF y.s.r.a y.s.r.f) (Alu.FL_b _ _ _ _).1 (Alu.FL_b _ _ _ _).2)
 (go_wp2; go_ret)
 refine ⟨rfl, v, ?_, ((M1.out.trans Q0.out.2).trans Q1.out.2)⟩
 have q := Q1.out.1
 exact q.mo
theorem d_20 (h0 : Sys noD memC w P R M tb v y n) (hn : n < 900000) (x yy s nn nl at_ : Int) (n0 : 0 ≤ nn) (n1 : nn < 65536) (hnl : nn % 256 = nl) : Calls Tryz.prog 26 #[.pointer (some ⟨P, 0, none⟩), .pointer (some ⟨R, 0, none⟩), .agg #[.int .i64 20, .int .i64 x, .int .i64 yy, .int .i64 s, .int .u16 nn], .int .u16 at_] w (PE noD memC P R M tb v w (.bool true) (setF (Alu.FL (Alu.zf y.s.r.f) true true (Alu.cf y.s.r.f)) (setA (255 - y.s.r.a) y)) (n + 4)) := by
 have f0 := h0.ok.2.1.1; have f1 := h0.ok.2.1.2
 have b2 : 0 ≤ nl ∧ nl < 256 := by omega
 have NB := Lib.hid b2
 have e2 : nn.tmod 256 = nl := by rw [Int.tmod_eq_emod_of_nonneg n0]; exact hnl
 have e4 : IntKind.u16.wrap nl = nl := IntWalk.u16_in nl (by omega); have e6 : nl % 256 = nl := Int.emod_eq_of_lt b2.1 b2.2; have F := Lib.hid (And.intro f0 f1); have HNL := Lib.hid hnl; clear b2 hnl
 have hnot := nt
 obtain ⟨S0, M0, HO, NO⟩ := h0.beg #[.int .i64 20, .int .i64 x, .int .i64 yy, .int .i64 s, .int .u16 nn] 47; obtain ⟨hc, hf⟩ := S0.out.cm; clear h0; go_enter Tryz.func26, Tryz.ntmps26; go_upto_region 1 with (fail); generalize w.alloc (.cells #[.int .i64 20, .int .i64 x, .int .i64 yy, .int .i64 s, .int .u16 nn] 47) = w0 at S0 M0 HO hc hf ⊢; generalize w.heap.size = ob at HO NO ⊢; have ho := HO.out.2.1; go_wp2_with fail
 with_reducible refine (Alu.z_r y.s.r.f F.out.1 F.out.2 _).mono ?_
 rintro e w_ ⟨rfl, rfl⟩; go_wp2_with fail
 with_reducible refine (Alu.c_r y.s.r.f F.out.1 F.out.2 _).mono ?_
 rintro e w_ ⟨rfl, rfl⟩; go_upto_region 4 with (fail); clear e2 e4 e6; replace S0 := Lib.hid S0.out.drew; replace M0 := Lib.hid (M0.out.trans (PM.drew P R M tb v w0)); replace HO := Lib.hid HO.out.drew; clear ho hc hf
 refine rh HO (fun hHeld => ?_)
 generalize World.drew w0 = u0 at hHeld S0 M0 HO ⊢; refine tz 0 ?_; refine tz 1 ?_; refine tz 2 ?_; refine tz 4 ?_; refine tz 5 ?_
 refine re1 3 (fun K hK => ?_)
 obtain ⟨hc, hf⟩ := S0.out.cm; go_simp; clear hc hf
 refine hK.out _ _ hHeld (fun hNew => ?_); clear hK K hHeld; have hHeld := hNew; clear hNew
 try simp only [Act.put, qqA, qqB, qqC]
 refine re1 6 (fun K hK => ?_)
 go_simp
 go_wp2_with (go_at_call 35; (with_reducible refine (Reg.is_r y.s.r x F.out.1 F.out.2 _).mono ?_); rintro e w1 ⟨rfl, hb⟩)
 have s' := S0.out.below hb; have m' : PM P R M tb v u0 v w1 := PM.of hb; clear hb; replace HO := m'.two HO NO; clear NO; obtain ⟨HO, NO⟩ := HO
 refine hK.out _ _ ⟨HO.out.2.1, trivial⟩ (fun hNew => ?_); clear hK K hHeld; have hHeld := hNew; clear hNew
 have M1 := M0.tr m'; have S1 := Lib.hid s'; clear s' m'; refine tz 7 ?_
 refine wpAnyH_done (by kernel_rfl) ?_ _
 obtain ⟨hc, hf⟩ := S1.out.cm; have ho := HO.out.2.1; clear hHeld; have ab0 := S1.out.ok.1.1; have ab1 := S1.out.ok.1.2; go_wp2_with fail; have q := S1.out.stA (255 - y.s.r.a) (by omega) (by omega); have s' := q.1; have m' := q.2; clear q; generalize (World.setCell w1 ⟨P, 0, none⟩ (.int .u8 (255 - y.s.r.a))) = w2 at s' m' ⊢; replace HO := m'.two HO NO; clear ho NO; obtain ⟨HO, NO⟩ := HO; have ho := HO.out.2.1; have M2 := M1.tr m'; obtain ⟨y2, hy⟩ : ∃ q_, q_ = setA (255 - y.s.r.a) y := ⟨_, rfl⟩; rw [← hy] at s'; have Y2 := Lib.hid hy; clear hy; clear hc hf; obtain ⟨hc, hf⟩ := s'.cm; have S2 := Lib.hid s'; clear s' m'
 with_reducible refine (Alu.flags_r (Alu.zf y.s.r.f) true true (Alu.cf y.s.r.f) _).mono ?_
 rintro e w_ ⟨rfl, rfl⟩; have Q0 := Lib.hid (S2.out.stF (Alu.FL (Alu.zf y.s.r.f) true true (Alu.cf y.s.r.f)) (Alu.FL_b _ _ _ _).1 (Alu.FL_b _ _ _ _).2)
 (go_wp2; go_ret)
 refine ⟨rfl, v, ?_, (M2.out.trans Q0.out.2)⟩
 have q := Q0.out.1; have e := Y2.out.symm; subst e
 exact q.mo
theorem d_21 (h0 : Sys noD memC w P R M tb v y n) (hn : n < 900000) (x yy s nn nl at_ : Int) (n0 : 0 ≤ nn) (n1 : nn < 65536) (hnl : nn % 256 = nl) : Calls Tryz.prog 26 #[.pointer (some ⟨P, 0, none⟩), .pointer (some ⟨R, 0, none⟩), .agg #[.int .i64 21, .int .i64 x, .int .i64 yy, .int .i64 s, .int .u16 nn], .int .u16 at_] w (PE noD memC P R M tb v w (.bool true) (setF (Alu.FL (Alu.zf y.s.r.f) false false true) y) (n + 4)) := by
 have f0 := h0.ok.2.1.1; have f1 := h0.ok.2.1.2
 have b2 : 0 ≤ nl ∧ nl < 256 := by omega
 have NB := Lib.hid b2
 have e2 : nn.tmod 256 = nl := by rw [Int.tmod_eq_emod_of_nonneg n0]; exact hnl
 have e4 : IntKind.u16.wrap nl = nl := IntWalk.u16_in nl (by omega); have e6 : nl % 256 = nl := Int.emod_eq_of_lt b2.1 b2.2; have F := Lib.hid (And.intro f0 f1); have HNL := Lib.hid hnl; clear b2 hnl
 have hnot := nt
 obtain ⟨S0, M0, HO, NO⟩ := h0.beg #[.int .i64 21, .int .i64 x, .int .i64 yy, .int .i64 s, .int .u16 nn] 47; obtain ⟨hc, hf⟩ := S0.out.cm; clear h0; go_enter Tryz.func26, Tryz.ntmps26; go_upto_region 1 with (fail); generalize w.alloc (.cells #[.int .i64 21, .int .i64 x, .int .i64 yy, .int .i64 s, .int .u16 nn] 47) = w0 at S0 M0 HO hc hf ⊢; generalize w.heap.size = ob at HO NO ⊢; have ho := HO.out.2.1; go_wp2_with fail
 with_reducible refine (Alu.z_r y.s.r.f F.out.1 F.out.2 _).mono ?_
 rintro e w_ ⟨rfl, rfl⟩; go_wp2_with fail
 with_reducible refine (Alu.c_r y.s.r.f F.out.1 F.out.2 _).mono ?_
 rintro e w_ ⟨rfl, rfl⟩; go_upto_region 4 with (fail); clear e2 e4 e6; replace S0 := Lib.hid S0.out.drew; replace M0 := Lib.hid (M0.out.trans (PM.drew P R M tb v w0)); replace HO := Lib.hid HO.out.drew; clear ho hc hf
 refine rh HO (fun hHeld => ?_)
 generalize World.drew w0 = u0 at hHeld S0 M0 HO ⊢; refine tz 0 ?_; refine tz 1 ?_; refine tz 2 ?_; refine tz 4 ?_; refine tz 5 ?_
 refine re1 3 (fun K hK => ?_)
 obtain ⟨hc, hf⟩ := S0.out.cm; go_simp; clear hc hf
 refine hK.out _ _ hHeld (fun hNew => ?_); clear hK K hHeld; have hHeld := hNew; clear hNew
 try simp only [Act.put, qqA, qqB, qqC]
 refine re1 6 (fun K hK => ?_)
 go_simp
 go_wp2_with (go_at_call 35; (with_reducible refine (Reg.is_r y.s.r x F.out.1 F.out.2 _).mono ?_); rintro e w1 ⟨rfl, hb⟩)
 have s' := S0.out.below hb; have m' : PM P R M tb v u0 v w1 := PM.of hb; clear hb; replace HO := m'.two HO NO; clear NO; obtain ⟨HO, NO⟩ := HO
 refine hK.out _ _ ⟨HO.out.2.1, trivial⟩ (fun hNew => ?_); clear hK K hHeld; have hHeld := hNew; clear hNew
 have M1 := M0.tr m'; have S1 := Lib.hid s'; clear s' m'; refine tz 7 ?_
 refine wpAnyH_done (by kernel_rfl) ?_ _
 obtain ⟨hc, hf⟩ := S1.out.cm; have ho := HO.out.2.1; clear hHeld; go_wp2_with fail
 with_reducible refine (Alu.flags_r (Alu.zf y.s.r.f) false false true _).mono ?_
 rintro e w_ ⟨rfl, rfl⟩; have Q0 := Lib.hid (S1.out.stF (Alu.FL (Alu.zf y.s.r.f) false false true) (Alu.FL_b _ _ _ _).1 (Alu.FL_b _ _ _ _).2)
 (go_wp2; go_ret)
 refine ⟨rfl, v, ?_, (M1.out.trans Q0.out.2)⟩
 have q := Q0.out.1
 exact q.mo
theorem d_22 (h0 : Sys noD memC w P R M tb v y n) (hn : n < 900000) (x yy s nn nl at_ : Int) (n0 : 0 ≤ nn) (n1 : nn < 65536) (hnl : nn % 256 = nl) : Calls Tryz.prog 26 #[.pointer (some ⟨P, 0, none⟩), .pointer (some ⟨R, 0, none⟩), .agg #[.int .i64 22, .int .i64 x, .int .i64 yy, .int .i64 s, .int .u16 nn], .int .u16 at_] w (PE noD memC P R M tb v w (.bool true) (setF (Alu.FL (Alu.zf y.s.r.f) false false (!Alu.cf y.s.r.f)) y) (n + 4)) := by
 have f0 := h0.ok.2.1.1; have f1 := h0.ok.2.1.2
 have b2 : 0 ≤ nl ∧ nl < 256 := by omega
 have NB := Lib.hid b2
 have e2 : nn.tmod 256 = nl := by rw [Int.tmod_eq_emod_of_nonneg n0]; exact hnl
 have e4 : IntKind.u16.wrap nl = nl := IntWalk.u16_in nl (by omega); have e6 : nl % 256 = nl := Int.emod_eq_of_lt b2.1 b2.2; have F := Lib.hid (And.intro f0 f1); have HNL := Lib.hid hnl; clear b2 hnl
 have hnot := nt
 obtain ⟨S0, M0, HO, NO⟩ := h0.beg #[.int .i64 22, .int .i64 x, .int .i64 yy, .int .i64 s, .int .u16 nn] 47; obtain ⟨hc, hf⟩ := S0.out.cm; clear h0; go_enter Tryz.func26, Tryz.ntmps26; go_upto_region 1 with (fail); generalize w.alloc (.cells #[.int .i64 22, .int .i64 x, .int .i64 yy, .int .i64 s, .int .u16 nn] 47) = w0 at S0 M0 HO hc hf ⊢; generalize w.heap.size = ob at HO NO ⊢; have ho := HO.out.2.1; go_wp2_with fail
 with_reducible refine (Alu.z_r y.s.r.f F.out.1 F.out.2 _).mono ?_
 rintro e w_ ⟨rfl, rfl⟩; go_wp2_with fail
 with_reducible refine (Alu.c_r y.s.r.f F.out.1 F.out.2 _).mono ?_
 rintro e w_ ⟨rfl, rfl⟩; go_upto_region 4 with (fail); clear e2 e4 e6; replace S0 := Lib.hid S0.out.drew; replace M0 := Lib.hid (M0.out.trans (PM.drew P R M tb v w0)); replace HO := Lib.hid HO.out.drew; clear ho hc hf
 refine rh HO (fun hHeld => ?_)
 generalize World.drew w0 = u0 at hHeld S0 M0 HO ⊢; refine tz 0 ?_; refine tz 1 ?_; refine tz 2 ?_; refine tz 4 ?_; refine tz 5 ?_
 refine re1 3 (fun K hK => ?_)
 obtain ⟨hc, hf⟩ := S0.out.cm; go_simp; clear hc hf
 refine hK.out _ _ hHeld (fun hNew => ?_); clear hK K hHeld; have hHeld := hNew; clear hNew
 try simp only [Act.put, qqA, qqB, qqC]
 refine re1 6 (fun K hK => ?_)
 go_simp
 go_wp2_with (go_at_call 35; (with_reducible refine (Reg.is_r y.s.r x F.out.1 F.out.2 _).mono ?_); rintro e w1 ⟨rfl, hb⟩)
 have s' := S0.out.below hb; have m' : PM P R M tb v u0 v w1 := PM.of hb; clear hb; replace HO := m'.two HO NO; clear NO; obtain ⟨HO, NO⟩ := HO
 refine hK.out _ _ ⟨HO.out.2.1, trivial⟩ (fun hNew => ?_); clear hK K hHeld; have hHeld := hNew; clear hNew
 have M1 := M0.tr m'; have S1 := Lib.hid s'; clear s' m'; refine tz 7 ?_
 refine wpAnyH_done (by kernel_rfl) ?_ _
 obtain ⟨hc, hf⟩ := S1.out.cm; have ho := HO.out.2.1; clear hHeld; go_wp2_with fail
 with_reducible refine (Alu.flags_r (Alu.zf y.s.r.f) false false (!Alu.cf y.s.r.f) _).mono ?_
 rintro e w_ ⟨rfl, rfl⟩; have Q0 := Lib.hid (S1.out.stF (Alu.FL (Alu.zf y.s.r.f) false false (!Alu.cf y.s.r.f)) (Alu.FL_b _ _ _ _).1 (Alu.FL_b _ _ _ _).2)
 (go_wp2; go_ret)
 refine ⟨rfl, v, ?_, (M1.out.trans Q0.out.2)⟩
 have q := Q0.out.1
 exact q.mo
end
end Go.Proofs.YtngdogldgcgnjaaGreat
