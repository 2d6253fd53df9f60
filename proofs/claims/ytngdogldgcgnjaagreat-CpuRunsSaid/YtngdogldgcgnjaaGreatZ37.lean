/-
  What an order does on the document's own processor, kind by kind: for every world; the processor is there.
-/
import Derived.Test.YtngdogldgcgnjaaGreatZ33
import Derived.Deep.Cut
set_option maxRecDepth 100000
set_option maxHeartbeats 8000000
namespace Go.Proofs.YtngdogldgcgnjaaGreat
open Go.ChangeShapes Go.WideShapes Go.ChangeAt Go.RowKit
open Reg
set_option linter.unusedVariables false
section
variable {w : World} {P R M tb n : Nat} {v : Value} {y : Sy}
theorem put_bd (x : Int) (h0 : 0 ≤ x) (h1 : x < 256) (k : Nat) (hk : k < 8) : 0 ≤ Go.Proofs.YtngdogldgcgnjaaGreat.put x k ∧ Go.Proofs.YtngdogldgcgnjaaGreat.put x k < 256 :=
 byte_all (P := fun x => ∀ k : Fin 8, 0 ≤ Go.Proofs.YtngdogldgcgnjaaGreat.put x k.val ∧ Go.Proofs.YtngdogldgcgnjaaGreat.put x k.val < 256) (by decide +kernel) x h0 h1 ⟨k, hk⟩
theorem d_40 (h0 : Sys noD memC w P R M tb v y n) (hn : n < 900000) (x yy s nn nl at_ : Int) (n0 : 0 ≤ nn) (n1 : nn < 65536) (hnl : nn % 256 = nl) : Calls Tryz.prog 26 #[.pointer (some ⟨P, 0, none⟩), .pointer (some ⟨R, 0, none⟩), .agg #[.int .i64 40, .int .i64 x, .int .i64 yy, .int .i64 s, .int .u16 nn], .int .u16 at_] w (PE noD memC P R M tb v w (.bool true) (wr (up nn) (y.s.r.sp / 256) (wr nn (y.s.r.sp % 256) y)) (n + 4)) := by
 have f0 := h0.ok.2.1.1; have f1 := h0.ok.2.1.2
 have b2 : 0 ≤ nl ∧ nl < 256 := by omega
 have NB := Lib.hid b2
 have e2 : nn.tmod 256 = nl := by rw [Int.tmod_eq_emod_of_nonneg n0]; exact hnl
 have e4 : IntKind.u16.wrap nl = nl := IntWalk.u16_in nl (by omega); have e6 : nl % 256 = nl := Int.emod_eq_of_lt b2.1 b2.2; have F := Lib.hid (And.intro f0 f1); have HNL := Lib.hid hnl; clear b2 hnl
 have hnot := nt
 obtain ⟨S0, M0, HO, NO⟩ := h0.beg #[.int .i64 40, .int .i64 x, .int .i64 yy, .int .i64 s, .int .u16 nn] 47; obtain ⟨hc, hf⟩ := S0.out.cm; clear h0; go_enter Tryz.func26, Tryz.ntmps26; go_upto_region 1 with (fail); generalize w.alloc (.cells #[.int .i64 40, .int .i64 x, .int .i64 yy, .int .i64 s, .int .u16 nn] 47) = w0 at S0 M0 HO hc hf ⊢; generalize w.heap.size = ob at HO NO ⊢; have ho := HO.out.2.1; go_wp2_with fail
 with_reducible refine (Alu.z_r y.s.r.f F.out.1 F.out.2 _).mono ?_
 rintro e w_ ⟨rfl, rfl⟩; go_wp2_with fail
 with_reducible refine (Alu.c_r y.s.r.f F.out.1 F.out.2 _).mono ?_
 rintro e w_ ⟨rfl, rfl⟩; go_upto_region 4 with (fail); clear e2 e4 e6; replace S0 := Lib.hid S0.out.drew; replace M0 := Lib.hid (M0.out.trans (PM.drew P R M tb v w0)); replace HO := Lib.hid HO.out.drew; clear ho hc hf
 refine rh HO (fun hHeld => ?_)
 generalize World.drew w0 = u0 at hHeld S0 M0 HO ⊢; refine tz 0 ?_; refine tz 1 ?_; refine tz 2 ?_; refine tz 4 ?_; refine tz 5 ?_
 refine re1 3 (fun K hK => ?_)
 obtain ⟨hc, hf⟩ := S0.out.cm; go_simp; clear hc hf
 refine hK.out _ _ hHeld (fun hNew => ?_); clear hK K hHeld; have hHeld := hNew; clear hNew
 try simp only [Act.put, qqA, qqB, qqC]
 refine re1 6 (fun K hK => ?_)
 go_simp
 go_wp2_with (go_at_call 35; (with_reducible refine (Reg.is_r y.s.r x F.out.1 F.out.2 _).mono ?_); rintro e w1 ⟨rfl, hb⟩)
 have s' := S0.out.below hb; have m' : PM P R M tb v u0 v w1 := PM.of hb; clear hb; replace HO := m'.two HO NO; clear NO; obtain ⟨HO, NO⟩ := HO
 refine hK.out _ _ ⟨HO.out.2.1, trivial⟩ (fun hNew => ?_); clear hK K hHeld; have hHeld := hNew; clear hNew
 have M1 := M0.tr m'; have S1 := Lib.hid s'; clear s' m'; refine tz 7 ?_
 refine wpAnyH_done (by kernel_rfl) ?_ _
 obtain ⟨hc, hf⟩ := S1.out.cm; have ho := HO.out.2.1; clear hHeld; have sp0 := S1.out.spb.1; have sp1 := S1.out.spb.2; obtain ⟨sl, hsl⟩ : ∃ q_, y.s.r.sp % 256 = q_ := ⟨_, rfl⟩; obtain ⟨sh, hsh⟩ : ∃ q_, y.s.r.sp / 256 = q_ := ⟨_, rfl⟩
 have sb : (0 ≤ sl ∧ sl < 256) ∧ (0 ≤ sh ∧ sh < 256) := by omega
 have SB := Lib.hid sb
 have g1 : y.s.r.sp.tmod 256 = sl := by rw [Int.tmod_eq_emod_of_nonneg sp0]; exact hsl
 have g2 : y.s.r.sp.tdiv 256 = sh := by rw [Int.tdiv_eq_ediv_of_nonneg sp0]; exact hsh
 have g3 : IntKind.u16.wrap sl = sl := IntWalk.u16_in _ (by omega); have g4 : IntKind.u16.wrap sh = sh := IntWalk.u16_in _ (by omega); have g5 : IntKind.u8.wrap sl = sl := IntWalk.u8_in _ (by omega); have g6 : IntKind.u8.wrap sh = sh := IntWalk.u8_in _ (by omega); have g7 : IntKind.i64.wrap nn = nn := IntWalk.i64_in _ (by omega); obtain ⟨z, hz⟩ : ∃ q_, nn + 1 = q_ := ⟨_, rfl⟩; have g8 : IntKind.i64.wrap (nn + 1) = z := (IntWalk.i64_in _ (by omega)).trans hz; have WR := Lib.hid (word_r z (up nn) (by omega) (by omega) (by rw [← hz]; rfl)); have HSL := Lib.hid hsl; have HSH := Lib.hid hsh
 have hn' : n < 999990 := by omega
 clear hsl hsh sb hz; go_upto_region 123 with (fail); replace S1 := Lib.hid S1.out.drew; replace M1 := Lib.hid (M1.out.trans (PM.drew P R M tb v w1)); replace HO := Lib.hid HO.out.drew; clear ho hc hf
 refine rh HO (fun hHeld => ?_)
 generalize World.drew w1 = u1 at hHeld S1 M1 HO ⊢; refine tz 0 ?_; refine tz 1 ?_; refine tz 2 ?_; refine tz 3 ?_; refine tz 4 ?_; refine tz 5 ?_; refine tz 6 ?_
 refine re1 7 (fun K hK => ?_)
 obtain ⟨hc, hf⟩ := S1.out.cm; go_simp; clear hc hf
 refine hK.out _ _ hHeld (fun hNew => ?_); clear hK K hHeld; have hHeld := hNew; clear hNew
 try simp only [Act.put, qqA, qqB, qqC]
 refine tz 8 ?_; refine tz 9 ?_
 refine re1 10 (fun K hK => ?_)
 go_simp
 go_wp2_with (go_at_call 23; (with_reducible refine (dow_p S1.out (by clear g1 g2 g3 g4 g5 g6 g7 g8; omega) nn sl n0 n1 SB.out.1.1 SB.out.1.2).mono ?_); rintro e w2 ⟨rfl, v2, s', m'⟩)
 replace HO := m'.two HO NO; clear NO; obtain ⟨HO, NO⟩ := HO
 refine hK.out _ _ ⟨HO.out.2.1, trivial⟩ (fun hNew => ?_); clear hK K hHeld; have hHeld := hNew; clear hNew
 have M2 := M1.tr m'; obtain ⟨y2, hy⟩ : ∃ q_, q_ = wr nn sl y := ⟨_, rfl⟩; rw [← hy] at s'; have Y2 := Lib.hid hy; clear hy; have S2 := Lib.hid s'; clear s' m'
 refine wpAnyH_done (by kernel_rfl) ?_ _
 obtain ⟨hc, hf⟩ := S2.out.cm; have ho := HO.out.2.1; clear hHeld
 have z2 : y2.s.r.sp = y.s.r.sp := by rw [Y2.out]; rfl
 have g9 : y2.s.r.sp.tdiv 256 = sh := by rw [z2]; exact g2
 clear z2; go_upto_region 124 with (fail); replace S2 := Lib.hid S2.out.drew; replace M2 := Lib.hid (M2.out.trans (PM.drew P R M tb v2 w2)); replace HO := Lib.hid HO.out.drew; clear ho hc hf
 refine rh HO (fun hHeld => ?_)
 generalize World.drew w2 = u2 at hHeld S2 M2 HO ⊢; refine tz 0 ?_; refine tz 1 ?_; refine tz 2 ?_; refine tz 3 ?_; refine tz 4 ?_; refine tz 6 ?_; refine tz 7 ?_; refine tz 8 ?_; refine tz 9 ?_
 refine wpAnyH_ready (rs := [5, 10]) (by kernel_rfl) (by simp) ?_
 refine (ac rfl (fun K hK => ?_) (ac rfl (fun K hK => ?_) AllReadyH.nil))
 ·skip
  go_simp
  go_wp2_with (go_at_call 24; (with_reducible refine (WR.out _).mono ?_); rintro e u' ⟨rfl, rfl⟩)
  refine hK.out _ _ hHeld (fun hNew => ?_); clear hK K hHeld; have hHeld := hNew; clear hNew
  refine re1 10 (fun K hK => ?_)
  obtain ⟨hc, hf⟩ := S2.out.cm; go_simp; clear hc hf
  refine hK.out _ _ hHeld (fun hNew => ?_); clear hK K hHeld; have hHeld := hNew; clear hNew
  try simp only [Act.put, qqA, qqB, qqC]
  refine tz 11 ?_; refine tz 12 ?_
  refine re1 13 (fun K hK => ?_)
  go_simp
  go_wp2_with (go_at_call 23; (with_reducible refine (dow_p S2.out (by clear g1 g2 g3 g4 g5 g6 g7 g8 g9; omega) (up nn) sh (up_b _).1 (up_b _).2 SB.out.2.1 SB.out.2.2).mono ?_); rintro e w3 ⟨rfl, v3, s', m'⟩)
  replace HO := m'.two HO NO; clear NO; obtain ⟨HO, NO⟩ := HO
  refine hK.out _ _ ⟨HO.out.2.1, trivial⟩ (fun hNew => ?_); clear hK K hHeld; have hHeld := hNew; clear hNew
  have M3 := M2.tr m'; obtain ⟨y3, hy⟩ : ∃ q_, q_ = wr (up nn) sh y2 := ⟨_, rfl⟩; rw [← hy] at s'; have Y3 := Lib.hid hy; clear hy; have S3 := Lib.hid s'; clear s' m'
  refine wpAnyH_done (by kernel_rfl) ?_ _
  obtain ⟨hc, hf⟩ := S3.out.cm; have ho := HO.out.2.1; clear hHeld; clear g1 g2 g3 g4 g5 g6 g7 g8; go_wp2; go_ret
  refine ⟨rfl, v3, ?_, M3.out⟩
  have q := S3.out; have e := Y3.out.symm; subst e; have e := Y2.out.symm; subst e; rw [← HSL.out, ← HSH.out] at q
  exact q.mo
 ·skip
  obtain ⟨hc, hf⟩ := S2.out.cm; go_simp; clear hc hf
  refine hK.out _ _ hHeld (fun hNew => ?_); clear hK K hHeld; have hHeld := hNew; clear hNew
  try simp only [Act.put, qqA, qqB, qqC]
  refine tz 11 ?_; refine tz 12 ?_
  refine re1 5 (fun K hK => ?_)
  go_simp
  go_wp2_with (go_at_call 24; (with_reducible refine (WR.out _).mono ?_); rintro e u' ⟨rfl, rfl⟩)
  refine hK.out _ _ hHeld (fun hNew => ?_); clear hK K hHeld; have hHeld := hNew; clear hNew
  refine re1 13 (fun K hK => ?_)
  go_simp
  go_wp2_with (go_at_call 23; (with_reducible refine (dow_p S2.out (by clear g1 g2 g3 g4 g5 g6 g7 g8 g9; omega) (up nn) sh (up_b _).1 (up_b _).2 SB.out.2.1 SB.out.2.2).mono ?_); rintro e w3 ⟨rfl, v3, s', m'⟩)
  replace HO := m'.two HO NO; clear NO; obtain ⟨HO, NO⟩ := HO
  refine hK.out _ _ ⟨HO.out.2.1, trivial⟩ (fun hNew => ?_); clear hK K hHeld; have hHeld := hNew; clear hNew
  have M3 := M2.tr m'; obtain ⟨y3, hy⟩ : ∃ q_, q_ = wr (up nn) sh y2 := ⟨_, rfl⟩; rw [← hy] at s'; have Y3 := Lib.hid hy; clear hy; have S3 := Lib.hid s'; clear s' m'
  refine wpAnyH_done (by kernel_rfl) ?_ _
  obtain ⟨hc, hf⟩ := S3.out.cm; have ho := HO.out.2.1; clear hHeld; clear g1 g2 g3 g4 g5 g6 g7 g8; go_wp2; go_ret
  refine ⟨rfl, v3, ?_, M3.out⟩
  have q := S3.out; have e := Y3.out.symm; subst e; have e := Y2.out.symm; subst e; rw [← HSL.out, ← HSH.out] at q
  exact q.mo
theorem d_41 (h0 : Sys noD memC w P R M tb v y n) (hn : n < 900000) (x yy s nn nl at_ : Int) (n0 : 0 ≤ nn) (n1 : nn < 65536) (hnl : nn % 256 = nl) : Calls Tryz.prog 26 #[.pointer (some ⟨P, 0, none⟩), .pointer (some ⟨R, 0, none⟩), .agg #[.int .i64 41, .int .i64 x, .int .i64 yy, .int .i64 s, .int .u16 nn], .int .u16 at_] w (PE noD memC P R M tb v w (.bool true) (setF (Alu.shiftF y.s.r.sp nl) (setSP (Alu.shiftR y.s.r.sp nl) (idle (idle y)))) (n + 4)) := by
 have f0 := h0.ok.2.1.1; have f1 := h0.ok.2.1.2
 have b2 : 0 ≤ nl ∧ nl < 256 := by omega
 have NB := Lib.hid b2
 have e2 : nn.tmod 256 = nl := by rw [Int.tmod_eq_emod_of_nonneg n0]; exact hnl
 have e4 : IntKind.u16.wrap nl = nl := IntWalk.u16_in nl (by omega); have e6 : nl % 256 = nl := Int.emod_eq_of_lt b2.1 b2.2; have F := Lib.hid (And.intro f0 f1); have HNL := Lib.hid hnl; clear b2 hnl
 have hnot := nt
 obtain ⟨S0, M0, HO, NO⟩ := h0.beg #[.int .i64 41, .int .i64 x, .int .i64 yy, .int .i64 s, .int .u16 nn] 47; obtain ⟨hc, hf⟩ := S0.out.cm; clear h0; go_enter Tryz.func26, Tryz.ntmps26; go_upto_region 1 with (fail); generalize w.alloc (.cells #[.int .i64 41, .int .i64 x, .int .i64 yy, .int .i64 s, .int .u16 nn] 47) = w0 at S0 M0 HO hc hf ⊢; generalize w.heap.size = ob at HO NO ⊢; have ho := HO.out.2.1; go_wp2_with fail
 with_reducible refine (Alu.z_r y.s.r.f F.out.1 F.out.2 _).mono ?_
 rintro e w_ ⟨rfl, rfl⟩; go_wp2_with fail
 with_reducible refine (Alu.c_r y.s.r.f F.out.1 F.out.2 _).mono ?_
 rintro e w_ ⟨rfl, rfl⟩; go_upto_region 4 with (fail); clear e2 e4 e6; replace S0 := Lib.hid S0.out.drew; replace M0 := Lib.hid (M0.out.trans (PM.drew P R M tb v w0)); replace HO := Lib.hid HO.out.drew; clear ho hc hf
 refine rh HO (fun hHeld => ?_)
 generalize World.drew w0 = u0 at hHeld S0 M0 HO ⊢; refine tz 0 ?_; refine tz 1 ?_; refine tz 2 ?_; refine tz 4 ?_; refine tz 5 ?_
 refine re1 3 (fun K hK => ?_)
 obtain ⟨hc, hf⟩ := S0.out.cm; go_simp; clear hc hf
 refine hK.out _ _ hHeld (fun hNew => ?_); clear hK K hHeld; have hHeld := hNew; clear hNew
 try simp only [Act.put, qqA, qqB, qqC]
 refine re1 6 (fun K hK => ?_)
 go_simp
 go_wp2_with (go_at_call 35; (with_reducible refine (Reg.is_r y.s.r x F.out.1 F.out.2 _).mono ?_); rintro e w1 ⟨rfl, hb⟩)
 have s' := S0.out.below hb; have m' : PM P R M tb v u0 v w1 := PM.of hb; clear hb; replace HO := m'.two HO NO; clear NO; obtain ⟨HO, NO⟩ := HO
 refine hK.out _ _ ⟨HO.out.2.1, trivial⟩ (fun hNew => ?_); clear hK K hHeld; have hHeld := hNew; clear hNew
 have M1 := M0.tr m'; have S1 := Lib.hid s'; clear s' m'; refine tz 7 ?_
 refine wpAnyH_done (by kernel_rfl) ?_ _
 obtain ⟨hc, hf⟩ := S1.out.cm; have ho := HO.out.2.1; clear hHeld; have sp0 := S1.out.spb.1; have sp1 := S1.out.spb.2; go_wp2_with fail
 with_reducible refine (Alu.shift16_r y.s.r.sp nl sp0 sp1 NB.out.1 NB.out.2 _).mono ?_
 rintro e w_ ⟨rfl, rfl⟩; go_wp2_with fail; have q := S1.out.stSP (Alu.shiftR y.s.r.sp nl) (shiftR_b _ _).1 (shiftR_b _ _).2; have s' := q.1; have m' := q.2; clear q; generalize (World.setCell w1 ⟨P, 8, none⟩ (.int .u16 (Alu.shiftR y.s.r.sp nl))) = w2 at s' m' ⊢; replace HO := m'.two HO NO; clear ho NO; obtain ⟨HO, NO⟩ := HO; have ho := HO.out.2.1; have M2 := M1.tr m'; obtain ⟨y2, hy⟩ : ∃ q_, q_ = setSP (Alu.shiftR y.s.r.sp nl) y := ⟨_, rfl⟩; rw [← hy] at s'; have Y2 := Lib.hid hy; clear hy; clear hc hf; obtain ⟨hc, hf⟩ := s'.cm; have S2 := Lib.hid s'; clear s' m'; have q := S2.out.stF (Alu.shiftF y.s.r.sp nl) (Alu.FL_b _ _ _ _).1 (Alu.FL_b _ _ _ _).2; have s' := q.1; have m' := q.2; clear q; generalize (World.setCell w2 ⟨P, 1, none⟩ (.int .u8 (Alu.shiftF y.s.r.sp nl))) = w3 at s' m' ⊢; replace HO := m'.two HO NO; clear ho NO; obtain ⟨HO, NO⟩ := HO; have ho := HO.out.2.1; have M3 := M2.tr m'; obtain ⟨y3, hy⟩ : ∃ q_, q_ = setF (Alu.shiftF y.s.r.sp nl) y2 := ⟨_, rfl⟩; rw [← hy] at s'; have Y3 := Lib.hid hy; clear hy; clear hc hf; obtain ⟨hc, hf⟩ := s'.cm; have S3 := Lib.hid s'; clear s' m'
 with_reducible refine (midle_p S3.out (by omega)).mono ?_
 rintro e w4 ⟨rfl, v4, s', m'⟩; replace HO := m'.two HO NO; clear ho NO; obtain ⟨HO, NO⟩ := HO; have ho := HO.out.2.1; have M4 := M3.tr m'; obtain ⟨y4, hy⟩ : ∃ q_, q_ = idle y3 := ⟨_, rfl⟩; rw [← hy] at s'; have Y4 := Lib.hid hy; clear hy; clear hc hf; obtain ⟨hc, hf⟩ := s'.cm; have S4 := Lib.hid s'; clear s' m'; go_wp2_with fail
 with_reducible refine (midle_p S4.out (by omega)).mono ?_
 rintro e w5 ⟨rfl, v5, s', m'⟩; replace HO := m'.two HO NO; clear ho NO; obtain ⟨HO, NO⟩ := HO; have ho := HO.out.2.1; have M5 := M4.tr m'; obtain ⟨y5, hy⟩ : ∃ q_, q_ = idle y4 := ⟨_, rfl⟩; rw [← hy] at s'; have Y5 := Lib.hid hy; clear hy; clear hc hf; obtain ⟨hc, hf⟩ := s'.cm; have S5 := Lib.hid s'; clear s' m'; go_wp2; go_ret
 refine ⟨rfl, v5, ?_, M5.out⟩
 have q := S5.out; have e := Y5.out.symm; subst e; have e := Y4.out.symm; subst e; have e := Y3.out.symm; subst e; have e := Y2.out.symm; subst e
 exact q.mo
theorem d_42 (h0 : Sys noD memC w P R M tb v y n) (hn : n < 900000) (x yy s nn nl at_ : Int) (n0 : 0 ≤ nn) (n1 : nn < 65536) (hnl : nn % 256 = nl) : Calls Tryz.prog 26 #[.pointer (some ⟨P, 0, none⟩), .pointer (some ⟨R, 0, none⟩), .agg #[.int .i64 42, .int .i64 x, .int .i64 yy, .int .i64 s, .int .u16 nn], .int .u16 at_] w (PE noD memC P R M tb v w (.bool true) (setF (Alu.shiftF y.s.r.sp nl) (pairS 2 (Alu.shiftR y.s.r.sp nl) (idle y))) (n + 4)) := by
 have f0 := h0.ok.2.1.1; have f1 := h0.ok.2.1.2
 have b2 : 0 ≤ nl ∧ nl < 256 := by omega
 have NB := Lib.hid b2
 have e2 : nn.tmod 256 = nl := by rw [Int.tmod_eq_emod_of_nonneg n0]; exact hnl
 have e4 : IntKind.u16.wrap nl = nl := IntWalk.u16_in nl (by omega); have e6 : nl % 256 = nl := Int.emod_eq_of_lt b2.1 b2.2; have F := Lib.hid (And.intro f0 f1); have HNL := Lib.hid hnl; clear b2 hnl
 have hnot := nt
 obtain ⟨S0, M0, HO, NO⟩ := h0.beg #[.int .i64 42, .int .i64 x, .int .i64 yy, .int .i64 s, .int .u16 nn] 47; obtain ⟨hc, hf⟩ := S0.out.cm; clear h0; go_enter Tryz.func26, Tryz.ntmps26; go_upto_region 1 with (fail); generalize w.alloc (.cells #[.int .i64 42, .int .i64 x, .int .i64 yy, .int .i64 s, .int .u16 nn] 47) = w0 at S0 M0 HO hc hf ⊢; generalize w.heap.size = ob at HO NO ⊢; have ho := HO.out.2.1; go_wp2_with fail
 with_reducible refine (Alu.z_r y.s.r.f F.out.1 F.out.2 _).mono ?_
 rintro e w_ ⟨rfl, rfl⟩; go_wp2_with fail
 with_reducible refine (Alu.c_r y.s.r.f F.out.1 F.out.2 _).mono ?_
 rintro e w_ ⟨rfl, rfl⟩; go_upto_region 4 with (fail); clear e2 e4 e6; replace S0 := Lib.hid S0.out.drew; replace M0 := Lib.hid (M0.out.trans (PM.drew P R M tb v w0)); replace HO := Lib.hid HO.out.drew; clear ho hc hf
 refine rh HO (fun hHeld => ?_)
 generalize World.drew w0 = u0 at hHeld S0 M0 HO ⊢; refine tz 0 ?_; refine tz 1 ?_; refine tz 2 ?_; refine tz 4 ?_; refine tz 5 ?_
 refine re1 3 (fun K hK => ?_)
 obtain ⟨hc, hf⟩ := S0.out.cm; go_simp; clear hc hf
 refine hK.out _ _ hHeld (fun hNew => ?_); clear hK K hHeld; have hHeld := hNew; clear hNew
 try simp only [Act.put, qqA, qqB, qqC]
 refine re1 6 (fun K hK => ?_)
 go_simp
 go_wp2_with (go_at_call 35; (with_reducible refine (Reg.is_r y.s.r x F.out.1 F.out.2 _).mono ?_); rintro e w1 ⟨rfl, hb⟩)
 have s' := S0.out.below hb; have m' : PM P R M tb v u0 v w1 := PM.of hb; clear hb; replace HO := m'.two HO NO; clear NO; obtain ⟨HO, NO⟩ := HO
 refine hK.out _ _ ⟨HO.out.2.1, trivial⟩ (fun hNew => ?_); clear hK K hHeld; have hHeld := hNew; clear hNew
 have M1 := M0.tr m'; have S1 := Lib.hid s'; clear s' m'; refine tz 7 ?_
 refine wpAnyH_done (by kernel_rfl) ?_ _
 obtain ⟨hc, hf⟩ := S1.out.cm; have ho := HO.out.2.1; clear hHeld; have sp0 := S1.out.spb.1; have sp1 := S1.out.spb.2; go_wp2_with fail
 with_reducible refine (Alu.shift16_r y.s.r.sp nl sp0 sp1 NB.out.1 NB.out.2 _).mono ?_
 rintro e w_ ⟨rfl, rfl⟩; go_wp2_with fail
 with_reducible refine (setPair_r y.s.r 2 (Alu.shiftR y.s.r.sp nl) (shiftR_b _ _).1 (shiftR_b _ _).2 _).mono ?_
 rintro e w2 ⟨rfl, hb⟩; have s' := S1.out.below hb; have m' : PM P R M tb v w1 v w2 := PM.of hb; clear hb; replace HO := m'.two HO NO; clear ho NO; obtain ⟨HO, NO⟩ := HO; have ho := HO.out.2.1; have M2 := M1.tr m'; clear hc hf; obtain ⟨hc, hf⟩ := s'.cm; have S2 := Lib.hid s'; clear s' m'; go_wp2_with fail; have q := S2.out.stR (setP y.s.r 2 (Alu.shiftR y.s.r.sp nl)) (setP_ok S2.out.ok 2 _ (shiftR_b _ _).1 (shiftR_b _ _).2); have s' := q.1; have m' := q.2; clear q; generalize (World.setCell (World.setCell (World.setCell (World.setCell (World.setCell (World.setCell (World.setCell (World.setCell (World.setCell (World.setCell w2 ⟨P, 0, none⟩ (.int .u8 (setP y.s.r 2 (Alu.shiftR y.s.r.sp nl)).a)) ⟨P, 1, none⟩ (.int .u8 (setP y.s.r 2 (Alu.shiftR y.s.r.sp nl)).f)) ⟨P, 2, none⟩ (.int .u8 (setP y.s.r 2 (Alu.shiftR y.s.r.sp nl)).b)) ⟨P, 3, none⟩ (.int .u8 (setP y.s.r 2 (Alu.shiftR y.s.r.sp nl)).c)) ⟨P, 4, none⟩ (.int .u8 (setP y.s.r 2 (Alu.shiftR y.s.r.sp nl)).d)) ⟨P, 5, none⟩ (.int .u8 (setP y.s.r 2 (Alu.shiftR y.s.r.sp nl)).e)) ⟨P, 6, none⟩ (.int .u8 (setP y.s.r 2 (Alu.shiftR y.s.r.sp nl)).h)) ⟨P, 7, none⟩ (.int .u8 (setP y.s.r 2 (Alu.shiftR y.s.r.sp nl)).l)) ⟨P, 8, none⟩ (.int .u16 (setP y.s.r 2 (Alu.shiftR y.s.r.sp nl)).sp)) ⟨P, 9, none⟩ (.int .u16 (setP y.s.r 2 (Alu.shiftR y.s.r.sp nl)).pc)) = w3 at s' m' ⊢; have HO' := Lib.hid (m'.has HO.out NO.out)
 have NO' := Lib.hid (m'.far HO.out.1 NO.out); clear ho HO NO; have HO := HO'; have NO := NO'; clear HO' NO'; have ho := HO.out.2.1; have M3 := M2.tr m'; obtain ⟨y3, hy⟩ : ∃ q_, q_ = setRR (setP y.s.r 2 (Alu.shiftR y.s.r.sp nl)) y := ⟨_, rfl⟩; rw [← hy] at s'; have Y3 := Lib.hid hy; clear hy; clear hc hf; obtain ⟨hc, hf⟩ := s'.cm; have S3 := Lib.hid s'; clear s' m'; have q := S3.out.stF (Alu.shiftF y.s.r.sp nl) (Alu.FL_b _ _ _ _).1 (Alu.FL_b _ _ _ _).2; have s' := q.1; have m' := q.2; clear q; generalize (World.setCell w3 ⟨P, 1, none⟩ (.int .u8 (Alu.shiftF y.s.r.sp nl))) = w4 at s' m' ⊢; replace HO := m'.two HO NO; clear ho NO; obtain ⟨HO, NO⟩ := HO; have ho := HO.out.2.1; have M4 := M3.tr m'; obtain ⟨y4, hy⟩ : ∃ q_, q_ = setF (Alu.shiftF y.s.r.sp nl) y3 := ⟨_, rfl⟩; rw [← hy] at s'; have Y4 := Lib.hid hy; clear hy; clear hc hf; obtain ⟨hc, hf⟩ := s'.cm; have S4 := Lib.hid s'; clear s' m'
 with_reducible refine (midle_p S4.out (by omega)).mono ?_
 rintro e w5 ⟨rfl, v5, s', m'⟩; replace HO := m'.two HO NO; clear ho NO; obtain ⟨HO, NO⟩ := HO; have ho := HO.out.2.1; have M5 := M4.tr m'; obtain ⟨y5, hy⟩ : ∃ q_, q_ = idle y4 := ⟨_, rfl⟩; rw [← hy] at s'; have Y5 := Lib.hid hy; clear hy; clear hc hf; obtain ⟨hc, hf⟩ := s'.cm; have S5 := Lib.hid s'; clear s' m'; go_wp2; go_ret
 refine ⟨rfl, v5, ?_, M5.out⟩
 have q := S5.out; have e := Y5.out.symm; subst e; have e := Y4.out.symm; subst e; have e := Y3.out.symm; subst e
 exact q.mo
theorem d_43 (h0 : Sys noD memC w P R M tb v y n) (hn : n < 900000) (x yy s nn nl at_ : Int) (n0 : 0 ≤ nn) (n1 : nn < 65536) (hnl : nn % 256 = nl) : Calls Tryz.prog 26 #[.pointer (some ⟨P, 0, none⟩), .pointer (some ⟨R, 0, none⟩), .agg #[.int .i64 43, .int .i64 x, .int .i64 yy, .int .i64 s, .int .u16 nn], .int .u16 at_] w (PE noD memC P R M tb v w (.bool true) (setSP (hlV y) (idle y)) (n + 4)) := by
 have f0 := h0.ok.2.1.1; have f1 := h0.ok.2.1.2
 have b2 : 0 ≤ nl ∧ nl < 256 := by omega
 have NB := Lib.hid b2
 have e2 : nn.tmod 256 = nl := by rw [Int.tmod_eq_emod_of_nonneg n0]; exact hnl
 have e4 : IntKind.u16.wrap nl = nl := IntWalk.u16_in nl (by omega); have e6 : nl % 256 = nl := Int.emod_eq_of_lt b2.1 b2.2; have F := Lib.hid (And.intro f0 f1); have HNL := Lib.hid hnl; clear b2 hnl
 have hnot := nt
 obtain ⟨S0, M0, HO, NO⟩ := h0.beg #[.int .i64 43, .int .i64 x, .int .i64 yy, .int .i64 s, .int .u16 nn] 47; obtain ⟨hc, hf⟩ := S0.out.cm; clear h0; go_enter Tryz.func26, Tryz.ntmps26; go_upto_region 1 with (fail); generalize w.alloc (.cells #[.int .i64 43, .int .i64 x, .int .i64 yy, .int .i64 s, .int .u16 nn] 47) = w0 at S0 M0 HO hc hf ⊢; generalize w.heap.size = ob at HO NO ⊢; have ho := HO.out.2.1; go_wp2_with fail
 with_reducible refine (Alu.z_r y.s.r.f F.out.1 F.out.2 _).mono ?_
 rintro e w_ ⟨rfl, rfl⟩; go_wp2_with fail
 with_reducible refine (Alu.c_r y.s.r.f F.out.1 F.out.2 _).mono ?_
 rintro e w_ ⟨rfl, rfl⟩; go_upto_region 4 with (fail); clear e2 e4 e6; replace S0 := Lib.hid S0.out.drew; replace M0 := Lib.hid (M0.out.trans (PM.drew P R M tb v w0)); replace HO := Lib.hid HO.out.drew; clear ho hc hf
 refine rh HO (fun hHeld => ?_)
 generalize World.drew w0 = u0 at hHeld S0 M0 HO ⊢; refine tz 0 ?_; refine tz 1 ?_; refine tz 2 ?_; refine tz 4 ?_; refine tz 5 ?_
 refine re1 3 (fun K hK => ?_)
 obtain ⟨hc, hf⟩ := S0.out.cm; go_simp; clear hc hf
 refine hK.out _ _ hHeld (fun hNew => ?_); clear hK K hHeld; have hHeld := hNew; clear hNew
 try simp only [Act.put, qqA, qqB, qqC]
 refine re1 6 (fun K hK => ?_)
 go_simp
 go_wp2_with (go_at_call 35; (with_reducible refine (Reg.is_r y.s.r x F.out.1 F.out.2 _).mono ?_); rintro e w1 ⟨rfl, hb⟩)
 have s' := S0.out.below hb; have m' : PM P R M tb v u0 v w1 := PM.of hb; clear hb; replace HO := m'.two HO NO; clear NO; obtain ⟨HO, NO⟩ := HO
 refine hK.out _ _ ⟨HO.out.2.1, trivial⟩ (fun hNew => ?_); clear hK K hHeld; have hHeld := hNew; clear hNew
 have M1 := M0.tr m'; have S1 := Lib.hid s'; clear s' m'; refine tz 7 ?_
 refine wpAnyH_done (by kernel_rfl) ?_ _
 obtain ⟨hc, hf⟩ := S1.out.cm; have ho := HO.out.2.1; clear hHeld; have hl := S1.out.hlb; go_wp2_with fail
 with_reducible refine (mpair_p S1.out (by omega) 2).mono ?_
 rintro e w2 ⟨rfl, v2, s', m'⟩; replace HO := m'.two HO NO; clear ho NO; obtain ⟨HO, NO⟩ := HO; have ho := HO.out.2.1; have M2 := M1.tr m'; clear hc hf; obtain ⟨hc, hf⟩ := s'.cm; have S2 := Lib.hid s'; clear s' m'; go_wp2_with fail; have q := S2.out.stSP (pairV y.s.r 2) hl.1 hl.2; have s' := q.1; have m' := q.2; clear q; generalize (World.setCell w2 ⟨P, 8, none⟩ (.int .u16 (pairV y.s.r 2))) = w3 at s' m' ⊢; replace HO := m'.two HO NO; clear ho NO; obtain ⟨HO, NO⟩ := HO; have ho := HO.out.2.1; have M3 := M2.tr m'; obtain ⟨y3, hy⟩ : ∃ q_, q_ = setSP (pairV y.s.r 2) y := ⟨_, rfl⟩; rw [← hy] at s'; have Y3 := Lib.hid hy; clear hy; clear hc hf; obtain ⟨hc, hf⟩ := s'.cm; have S3 := Lib.hid s'; clear s' m'
 with_reducible refine (midle_p S3.out (by omega)).mono ?_
 rintro e w4 ⟨rfl, v4, s', m'⟩; replace HO := m'.two HO NO; clear ho NO; obtain ⟨HO, NO⟩ := HO; have ho := HO.out.2.1; have M4 := M3.tr m'; obtain ⟨y4, hy⟩ : ∃ q_, q_ = idle y3 := ⟨_, rfl⟩; rw [← hy] at s'; have Y4 := Lib.hid hy; clear hy; clear hc hf; obtain ⟨hc, hf⟩ := s'.cm; have S4 := Lib.hid s'; clear s' m'; go_wp2; go_ret
 refine ⟨rfl, v4, ?_, M4.out⟩
 have q := S4.out; have e := Y4.out.symm; subst e; have e := Y3.out.symm; subst e
 exact q.mo
theorem d_44 (h0 : Sys noD memC w P R M tb v y n) (hn : n < 900000) (x yy s nn nl at_ : Int) (n0 : 0 ≤ nn) (n1 : nn < 65536) (hnl : nn % 256 = nl) : Calls Tryz.prog 26 #[.pointer (some ⟨P, 0, none⟩), .pointer (some ⟨R, 0, none⟩), .agg #[.int .i64 44, .int .i64 x, .int .i64 yy, .int .i64 s, .int .u16 nn], .int .u16 at_] w (PE noD memC P R M tb v w (.bool true) (setF (Alu.bitF x (getY yy y) y.s.r.f) (getS yy y)) (n + 4)) := by
 have f0 := h0.ok.2.1.1; have f1 := h0.ok.2.1.2
 have b2 : 0 ≤ nl ∧ nl < 256 := by omega
 have NB := Lib.hid b2
 have e2 : nn.tmod 256 = nl := by rw [Int.tmod_eq_emod_of_nonneg n0]; exact hnl
 have e4 : IntKind.u16.wrap nl = nl := IntWalk.u16_in nl (by omega); have e6 : nl % 256 = nl := Int.emod_eq_of_lt b2.1 b2.2; have F := Lib.hid (And.intro f0 f1); have HNL := Lib.hid hnl; clear b2 hnl
 have hnot := nt
 obtain ⟨S0, M0, HO, NO⟩ := h0.beg #[.int .i64 44, .int .i64 x, .int .i64 yy, .int .i64 s, .int .u16 nn] 47; obtain ⟨hc, hf⟩ := S0.out.cm; clear h0; go_enter Tryz.func26, Tryz.ntmps26; go_upto_region 1 with (fail); generalize w.alloc (.cells #[.int .i64 44, .int .i64 x, .int .i64 yy, .int .i64 s, .int .u16 nn] 47) = w0 at S0 M0 HO hc hf ⊢; generalize w.heap.size = ob at HO NO ⊢; have ho := HO.out.2.1; go_wp2_with fail
 with_reducible refine (Alu.z_r y.s.r.f F.out.1 F.out.2 _).mono ?_
 rintro e w_ ⟨rfl, rfl⟩; go_wp2_with fail
 with_reducible refine (Alu.c_r y.s.r.f F.out.1 F.out.2 _).mono ?_
 rintro e w_ ⟨rfl, rfl⟩; go_upto_region 4 with (fail); clear e2 e4 e6; replace S0 := Lib.hid S0.out.drew; replace M0 := Lib.hid (M0.out.trans (PM.drew P R M tb v w0)); replace HO := Lib.hid HO.out.drew; clear ho hc hf
 refine rh HO (fun hHeld => ?_)
 generalize World.drew w0 = u0 at hHeld S0 M0 HO ⊢; refine tz 0 ?_; refine tz 1 ?_; refine tz 2 ?_; refine tz 4 ?_; refine tz 5 ?_
 refine re1 3 (fun K hK => ?_)
 obtain ⟨hc, hf⟩ := S0.out.cm; go_simp; clear hc hf
 refine hK.out _ _ hHeld (fun hNew => ?_); clear hK K hHeld; have hHeld := hNew; clear hNew
 try simp only [Act.put, qqA, qqB, qqC]
 refine re1 6 (fun K hK => ?_)
 go_simp
 go_wp2_with (go_at_call 35; (with_reducible refine (Reg.is_r y.s.r x F.out.1 F.out.2 _).mono ?_); rintro e w1 ⟨rfl, hb⟩)
 have s' := S0.out.below hb; have m' : PM P R M tb v u0 v w1 := PM.of hb; clear hb; replace HO := m'.two HO NO; clear NO; obtain ⟨HO, NO⟩ := HO
 refine hK.out _ _ ⟨HO.out.2.1, trivial⟩ (fun hNew => ?_); clear hK K hHeld; have hHeld := hNew; clear hNew
 have M1 := M0.tr m'; have S1 := Lib.hid s'; clear s' m'; refine tz 7 ?_
 refine wpAnyH_done (by kernel_rfl) ?_ _
 obtain ⟨hc, hf⟩ := S1.out.cm; have ho := HO.out.2.1; clear hHeld; have gb := S1.out.getb yy; have BK := Lib.hid (Alu.bitK_r x (getY yy y) y.s.r.f gb.1 gb.2 F.out.1 F.out.2); go_upto_region 138 with (fail); replace S1 := Lib.hid S1.out.drew; replace M1 := Lib.hid (M1.out.trans (PM.drew P R M tb v w1)); replace HO := Lib.hid HO.out.drew; clear ho hc hf
 refine rh HO (fun hHeld => ?_)
 generalize World.drew w1 = u1 at hHeld S1 M1 HO ⊢; refine tz 0 ?_; refine tz 1 ?_; refine tz 2 ?_; refine tz 3 ?_; refine tz 4 ?_; refine tz 5 ?_; refine tz 6 ?_; refine tz 8 ?_
 refine re1 7 (fun K hK => ?_)
 go_simp
 go_wp2_with (go_at_call 37; (with_reducible refine (mget_p S1.out (by omega) yy).mono ?_); rintro e w2 ⟨rfl, v2, s', m'⟩)
 replace HO := m'.two HO NO; clear NO; obtain ⟨HO, NO⟩ := HO
 refine hK.out _ _ ⟨HO.out.2.1, trivial⟩ (fun hNew => ?_); clear hK K hHeld; have hHeld := hNew; clear hNew
 have M2 := M1.tr m'; obtain ⟨y2, hy⟩ : ∃ q_, q_ = getS yy y := ⟨_, rfl⟩; rw [← hy] at s'; have Y2 := Lib.hid hy; clear hy; have S2 := Lib.hid s'; clear s' m'
 refine re1 9 (fun K hK => ?_)
 go_simp
 go_wp2_with (go_at_call 50; (with_reducible refine (BK.out _).mono ?_); rintro e u' ⟨rfl, rfl⟩)
 refine hK.out _ _ hHeld (fun hNew => ?_); clear hK K hHeld; have hHeld := hNew; clear hNew
 refine tz 10 ?_; refine tz 11 ?_; refine tz 12 ?_
 refine re1 13 (fun K hK => ?_)
 obtain ⟨hc, hf⟩ := S2.out.cm; go_simp; clear hc hf; have q := S2.out.stF (Alu.bitF x (getY yy y) y.s.r.f) (Alu.FL_b _ _ _ _).1 (Alu.FL_b _ _ _ _).2; have s' := q.1; have m' := q.2; clear q; replace HO := m'.two HO NO; clear NO; obtain ⟨HO, NO⟩ := HO
 refine hK.out _ _ ⟨HO.out.2.1, trivial⟩ (fun hNew => ?_); clear hK K hHeld; have hHeld := hNew; clear hNew
 generalize World.setCell w2 ⟨P, 1, none⟩ (.int .u8 (Alu.bitF x (getY yy y) y.s.r.f)) = w3 at hHeld s' m' HO ⊢; have M3 := M2.tr m'; obtain ⟨y3, hy⟩ : ∃ q_, q_ = setF (Alu.bitF x (getY yy y) y.s.r.f) y2 := ⟨_, rfl⟩; rw [← hy] at s'; have Y3 := Lib.hid hy; clear hy; have S3 := Lib.hid s'; clear s' m'
 refine wpAnyH_done (by kernel_rfl) ?_ _
 obtain ⟨hc, hf⟩ := S3.out.cm; have ho := HO.out.2.1; clear hHeld; go_wp2; go_ret
 refine ⟨rfl, v2, ?_, M3.out⟩
 have q := S3.out; have e := Y3.out.symm; subst e; have e := Y2.out.symm; subst e
 exact q.mo
theorem d_45 (h0 : Sys noD memC w P R M tb v y n) (hn : n < 900000) (x yy s nn nl at_ : Int) (n0 : 0 ≤ nn) (n1 : nn < 65536) (hnl : nn % 256 = nl) (x0 : 0 ≤ x) (x1 : x < 8) : Calls Tryz.prog 26 #[.pointer (some ⟨P, 0, none⟩), .pointer (some ⟨R, 0, none⟩), .agg #[.int .i64 45, .int .i64 x, .int .i64 yy, .int .i64 s, .int .u16 nn], .int .u16 at_] w (PE noD memC P R M tb v w (.bool true) (putS yy (clr (getY yy y) x.toNat) (getS yy y)) (n + 4)) := by
 have f0 := h0.ok.2.1.1; have f1 := h0.ok.2.1.2
 have b2 : 0 ≤ nl ∧ nl < 256 := by omega
 have NB := Lib.hid b2
 have e2 : nn.tmod 256 = nl := by rw [Int.tmod_eq_emod_of_nonneg n0]; exact hnl
 have e4 : IntKind.u16.wrap nl = nl := IntWalk.u16_in nl (by omega); have e6 : nl % 256 = nl := Int.emod_eq_of_lt b2.1 b2.2; have F := Lib.hid (And.intro f0 f1); have HNL := Lib.hid hnl; clear b2 hnl
 have hnot := nt
 obtain ⟨S0, M0, HO, NO⟩ := h0.beg #[.int .i64 45, .int .i64 x, .int .i64 yy, .int .i64 s, .int .u16 nn] 47; obtain ⟨hc, hf⟩ := S0.out.cm; clear h0; go_enter Tryz.func26, Tryz.ntmps26; go_upto_region 1 with (fail); generalize w.alloc (.cells #[.int .i64 45, .int .i64 x, .int .i64 yy, .int .i64 s, .int .u16 nn] 47) = w0 at S0 M0 HO hc hf ⊢; generalize w.heap.size = ob at HO NO ⊢; have ho := HO.out.2.1; go_wp2_with fail
 with_reducible refine (Alu.z_r y.s.r.f F.out.1 F.out.2 _).mono ?_
 rintro e w_ ⟨rfl, rfl⟩; go_wp2_with fail
 with_reducible refine (Alu.c_r y.s.r.f F.out.1 F.out.2 _).mono ?_
 rintro e w_ ⟨rfl, rfl⟩; go_upto_region 4 with (fail); clear e2 e4 e6; replace S0 := Lib.hid S0.out.drew; replace M0 := Lib.hid (M0.out.trans (PM.drew P R M tb v w0)); replace HO := Lib.hid HO.out.drew; clear ho hc hf
 refine rh HO (fun hHeld => ?_)
 generalize World.drew w0 = u0 at hHeld S0 M0 HO ⊢; refine tz 0 ?_; refine tz 1 ?_; refine tz 2 ?_; refine tz 4 ?_; refine tz 5 ?_
 refine re1 3 (fun K hK => ?_)
 obtain ⟨hc, hf⟩ := S0.out.cm; go_simp; clear hc hf
 refine hK.out _ _ hHeld (fun hNew => ?_); clear hK K hHeld; have hHeld := hNew; clear hNew
 try simp only [Act.put, qqA, qqB, qqC]
 refine re1 6 (fun K hK => ?_)
 go_simp
 go_wp2_with (go_at_call 35; (with_reducible refine (Reg.is_r y.s.r x F.out.1 F.out.2 _).mono ?_); rintro e w1 ⟨rfl, hb⟩)
 have s' := S0.out.below hb; have m' : PM P R M tb v u0 v w1 := PM.of hb; clear hb; replace HO := m'.two HO NO; clear NO; obtain ⟨HO, NO⟩ := HO
 refine hK.out _ _ ⟨HO.out.2.1, trivial⟩ (fun hNew => ?_); clear hK K hHeld; have hHeld := hNew; clear hNew
 have M1 := M0.tr m'; have S1 := Lib.hid s'; clear s' m'; refine tz 7 ?_
 refine wpAnyH_done (by kernel_rfl) ?_ _
 obtain ⟨hc, hf⟩ := S1.out.cm; have ho := HO.out.2.1; clear hHeld; have gb := S1.out.getb yy; have CH := Lib.hid (clr_r (getY yy y) x gb.1 gb.2 x0 x1); have cb := clr_bd (getY yy y) gb.1 gb.2 x.toNat (by omega); go_upto_region 140 with (fail); replace S1 := Lib.hid S1.out.drew; replace M1 := Lib.hid (M1.out.trans (PM.drew P R M tb v w1)); replace HO := Lib.hid HO.out.drew; clear ho hc hf
 refine rh HO (fun hHeld => ?_)
 generalize World.drew w1 = u1 at hHeld S1 M1 HO ⊢; refine tz 0 ?_; refine tz 1 ?_; refine tz 2 ?_; refine tz 3 ?_; refine tz 4 ?_; refine tz 5 ?_; refine tz 6 ?_; refine tz 7 ?_; refine tz 9 ?_; refine tz 10 ?_
 refine re1 8 (fun K hK => ?_)
 go_simp
 go_wp2_with (go_at_call 37; (with_reducible refine (mget_p S1.out (by omega) yy).mono ?_); rintro e w2 ⟨rfl, v2, s', m'⟩)
 replace HO := m'.two HO NO; clear NO; obtain ⟨HO, NO⟩ := HO
 refine hK.out _ _ ⟨HO.out.2.1, trivial⟩ (fun hNew => ?_); clear hK K hHeld; have hHeld := hNew; clear hNew
 have M2 := M1.tr m'; obtain ⟨y2, hy⟩ : ∃ q_, q_ = getS yy y := ⟨_, rfl⟩; rw [← hy] at s'; have Y2 := Lib.hid hy; clear hy; have S2 := Lib.hid s'; clear s' m'
 refine re1 11 (fun K hK => ?_)
 go_simp
 go_wp2_with (go_at_call 51; (with_reducible refine (CH.out _).mono ?_); rintro e u' ⟨rfl, rfl⟩)
 refine hK.out _ _ hHeld (fun hNew => ?_); clear hK K hHeld; have hHeld := hNew; clear hNew
 refine re1 12 (fun K hK => ?_)
 go_simp
 go_wp2_with (go_at_call 36; (with_reducible refine (mset_p S2.out (by omega) yy (clr (getY yy y) x.toNat) cb.1 cb.2).mono ?_); rintro e w3 ⟨rfl, v3, s', m'⟩)
 replace HO := m'.two HO NO; clear NO; obtain ⟨HO, NO⟩ := HO
 refine hK.out _ _ ⟨HO.out.2.1, trivial⟩ (fun hNew => ?_); clear hK K hHeld; have hHeld := hNew; clear hNew
 have M3 := M2.tr m'; obtain ⟨y3, hy⟩ : ∃ q_, q_ = putS yy (clr (getY yy y) x.toNat) y2 := ⟨_, rfl⟩; rw [← hy] at s'; have Y3 := Lib.hid hy; clear hy; have S3 := Lib.hid s'; clear s' m'
 refine wpAnyH_done (by kernel_rfl) ?_ _
 obtain ⟨hc, hf⟩ := S3.out.cm; have ho := HO.out.2.1; clear hHeld; go_wp2; go_ret
 refine ⟨rfl, v3, ?_, M3.out⟩
 have q := S3.out; have e := Y3.out.symm; subst e; have e := Y2.out.symm; subst e
 exact q.mo
theorem d_46 (h0 : Sys noD memC w P R M tb v y n) (hn : n < 900000) (x yy s nn nl at_ : Int) (n0 : 0 ≤ nn) (n1 : nn < 65536) (hnl : nn % 256 = nl) (x0 : 0 ≤ x) (x1 : x < 8) : Calls Tryz.prog 26 #[.pointer (some ⟨P, 0, none⟩), .pointer (some ⟨R, 0, none⟩), .agg #[.int .i64 46, .int .i64 x, .int .i64 yy, .int .i64 s, .int .u16 nn], .int .u16 at_] w (PE noD memC P R M tb v w (.bool true) (putS yy (Go.Proofs.YtngdogldgcgnjaaGreat.put (getY yy y) x.toNat) (getS yy y)) (n + 4)) := by
 have f0 := h0.ok.2.1.1; have f1 := h0.ok.2.1.2
 have b2 : 0 ≤ nl ∧ nl < 256 := by omega
 have NB := Lib.hid b2
 have e2 : nn.tmod 256 = nl := by rw [Int.tmod_eq_emod_of_nonneg n0]; exact hnl
 have e4 : IntKind.u16.wrap nl = nl := IntWalk.u16_in nl (by omega); have e6 : nl % 256 = nl := Int.emod_eq_of_lt b2.1 b2.2; have F := Lib.hid (And.intro f0 f1); have HNL := Lib.hid hnl; clear b2 hnl
 have hnot := nt
 obtain ⟨S0, M0, HO, NO⟩ := h0.beg #[.int .i64 46, .int .i64 x, .int .i64 yy, .int .i64 s, .int .u16 nn] 47; obtain ⟨hc, hf⟩ := S0.out.cm; clear h0; go_enter Tryz.func26, Tryz.ntmps26; go_upto_region 1 with (fail); generalize w.alloc (.cells #[.int .i64 46, .int .i64 x, .int .i64 yy, .int .i64 s, .int .u16 nn] 47) = w0 at S0 M0 HO hc hf ⊢; generalize w.heap.size = ob at HO NO ⊢; have ho := HO.out.2.1; go_wp2_with fail
 with_reducible refine (Alu.z_r y.s.r.f F.out.1 F.out.2 _).mono ?_
 rintro e w_ ⟨rfl, rfl⟩; go_wp2_with fail
 with_reducible refine (Alu.c_r y.s.r.f F.out.1 F.out.2 _).mono ?_
 rintro e w_ ⟨rfl, rfl⟩; go_upto_region 4 with (fail); clear e2 e4 e6; replace S0 := Lib.hid S0.out.drew; replace M0 := Lib.hid (M0.out.trans (PM.drew P R M tb v w0)); replace HO := Lib.hid HO.out.drew; clear ho hc hf
 refine rh HO (fun hHeld => ?_)
 generalize World.drew w0 = u0 at hHeld S0 M0 HO ⊢; refine tz 0 ?_; refine tz 1 ?_; refine tz 2 ?_; refine tz 4 ?_; refine tz 5 ?_
 refine re1 3 (fun K hK => ?_)
 obtain ⟨hc, hf⟩ := S0.out.cm; go_simp; clear hc hf
 refine hK.out _ _ hHeld (fun hNew => ?_); clear hK K hHeld; have hHeld := hNew; clear hNew
 try simp only [Act.put, qqA, qqB, qqC]
 refine re1 6 (fun K hK => ?_)
 go_simp
 go_wp2_with (go_at_call 35; (with_reducible refine (Reg.is_r y.s.r x F.out.1 F.out.2 _).mono ?_); rintro e w1 ⟨rfl, hb⟩)
 have s' := S0.out.below hb; have m' : PM P R M tb v u0 v w1 := PM.of hb; clear hb; replace HO := m'.two HO NO; clear NO; obtain ⟨HO, NO⟩ := HO
 refine hK.out _ _ ⟨HO.out.2.1, trivial⟩ (fun hNew => ?_); clear hK K hHeld; have hHeld := hNew; clear hNew
 have M1 := M0.tr m'; have S1 := Lib.hid s'; clear s' m'; refine tz 7 ?_
 refine wpAnyH_done (by kernel_rfl) ?_ _
 obtain ⟨hc, hf⟩ := S1.out.cm; have ho := HO.out.2.1; clear hHeld; have gb := S1.out.getb yy; have CH := Lib.hid (put_r (getY yy y) x gb.1 gb.2 x0 x1); have cb := put_bd (getY yy y) gb.1 gb.2 x.toNat (by omega); go_upto_region 142 with (fail); replace S1 := Lib.hid S1.out.drew; replace M1 := Lib.hid (M1.out.trans (PM.drew P R M tb v w1)); replace HO := Lib.hid HO.out.drew; clear ho hc hf
 refine rh HO (fun hHeld => ?_)
 generalize World.drew w1 = u1 at hHeld S1 M1 HO ⊢; refine tz 0 ?_; refine tz 1 ?_; refine tz 2 ?_; refine tz 3 ?_; refine tz 4 ?_; refine tz 5 ?_; refine tz 6 ?_; refine tz 7 ?_; refine tz 9 ?_; refine tz 10 ?_
 refine re1 8 (fun K hK => ?_)
 go_simp
 go_wp2_with (go_at_call 37; (with_reducible refine (mget_p S1.out (by omega) yy).mono ?_); rintro e w2 ⟨rfl, v2, s', m'⟩)
 replace HO := m'.two HO NO; clear NO; obtain ⟨HO, NO⟩ := HO
 refine hK.out _ _ ⟨HO.out.2.1, trivial⟩ (fun hNew => ?_); clear hK K hHeld; have hHeld := hNew; clear hNew
 have M2 := M1.tr m'; obtain ⟨y2, hy⟩ : ∃ q_, q_ = getS yy y := ⟨_, rfl⟩; rw [← hy] at s'; have Y2 := Lib.hid hy; clear hy; have S2 := Lib.hid s'; clear s' m'
 refine re1 11 (fun K hK => ?_)
 go_simp
 go_wp2_with (go_at_call 51; (with_reducible refine (CH.out _).mono ?_); rintro e u' ⟨rfl, rfl⟩)
 refine hK.out _ _ hHeld (fun hNew => ?_); clear hK K hHeld; have hHeld := hNew; clear hNew
 refine re1 12 (fun K hK => ?_)
 go_simp
 go_wp2_with (go_at_call 36; (with_reducible refine (mset_p S2.out (by omega) yy (Go.Proofs.YtngdogldgcgnjaaGreat.put (getY yy y) x.toNat) cb.1 cb.2).mono ?_); rintro e w3 ⟨rfl, v3, s', m'⟩)
 replace HO := m'.two HO NO; clear NO; obtain ⟨HO, NO⟩ := HO
 refine hK.out _ _ ⟨HO.out.2.1, trivial⟩ (fun hNew => ?_); clear hK K hHeld; have hHeld := hNew; clear hNew
 have M3 := M2.tr m'; obtain ⟨y3, hy⟩ : ∃ q_, q_ = putS yy (Go.Proofs.YtngdogldgcgnjaaGreat.put (getY yy y) x.toNat) y2 := ⟨_, rfl⟩; rw [← hy] at s'; have Y3 := Lib.hid hy; clear hy; have S3 := Lib.hid s'; clear s' m'
 refine wpAnyH_done (by kernel_rfl) ?_ _
 obtain ⟨hc, hf⟩ := S3.out.cm; have ho := HO.out.2.1; clear hHeld; go_wp2; go_ret
 refine ⟨rfl, v3, ?_, M3.out⟩
 have q := S3.out; have e := Y3.out.symm; subst e; have e := Y2.out.symm; subst e
 exact q.mo
end
end Go.Proofs.YtngdogldgcgnjaaGreat
