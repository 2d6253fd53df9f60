/-
  What an order does on the document's own processor, kind by kind: for every world; the processor is there.
-/
import Derived.Test.YtngdogldgcgnjaaGreatZ33
import Derived.Deep.Cut
set_option maxRecDepth 100000
set_option maxHeartbeats 8000000
namespace Go.Proofs.YtngdogldgcgnjaaGreat
open Go.ChangeShapes Go.WideShapes Go.ChangeAt Go.RowKit
open Reg
set_option linter.unusedVariables false
section
variable {w : World} {P R M tb n : Nat} {v : Value} {y : Sy}
theorem thruS_m (x : Int) (y : Sy) : (thruS x y).m = y.m := by
 unfold thruS; split
 ·rfl
 split
 ·rfl
 ·rfl
theorem setP2_a (r : RR) (x : Int) : (setP r 2 x).a = r.a := by rfl
theorem thruS_a (x : Int) (y : Sy) : (thruS x y).s.r.a = y.s.r.a := by
 unfold thruS; split
 ·rfl
 split
 ·rfl
 ·rfl
theorem Sys.thrub {D : Nat → Array Value} {C : Nat → Int → Value → Array Value} (h : Sys D C w P R M tb v y n) (x : Int) : 0 ≤ thruV x y ∧ thruV x y < 65536 := by
 unfold thruV; split
 ·exact h.hlb
 split
 ·exact h.hlb
 ·exact pairV_b h.ok x
theorem mfar_p (h0 : Sys noD memC w P R M tb v y n) (hn : n < 990000) (x : Int) (x0 : 0 ≤ x) (x1 : x < 4) : Calls Tryz.prog 48 #[.pointer (some ⟨P, 0, none⟩), .int .i64 x] w (PE noD memC P R M tb v w (.int .u16 (thruV x y)) (thruS x y) n) := by
 rcases (by omega : x < 2 ∨ x = 2 ∨ x = 3) with h | rfl | rfl
 ·exact mfar_n h0 hn x h
 ·exact mfar_2 h0 hn
 ·exact mfar_3 h0 hn
theorem d_32 (h0 : Sys noD memC w P R M tb v y n) (hn : n < 900000) (x yy s nn nl at_ : Int) (n0 : 0 ≤ nn) (n1 : nn < 65536) (hnl : nn % 256 = nl) (x0 : 0 ≤ x) (x1 : x < 4) : Calls Tryz.prog 26 #[.pointer (some ⟨P, 0, none⟩), .pointer (some ⟨R, 0, none⟩), .agg #[.int .i64 32, .int .i64 x, .int .i64 yy, .int .i64 s, .int .u16 nn], .int .u16 at_] w (PE noD memC P R M tb v w (.bool true) (setA (y.m (thruV x y)) (rd 1 (thruV x y) (thruS x y))) (n + 4)) := by
 have f0 := h0.ok.2.1.1; have f1 := h0.ok.2.1.2
 have b2 : 0 ≤ nl ∧ nl < 256 := by omega
 have NB := Lib.hid b2
 have e2 : nn.tmod 256 = nl := by rw [Int.tmod_eq_emod_of_nonneg n0]; exact hnl
 have e4 : IntKind.u16.wrap nl = nl := IntWalk.u16_in nl (by omega); have e6 : nl % 256 = nl := Int.emod_eq_of_lt b2.1 b2.2; have F := Lib.hid (And.intro f0 f1); have HNL := Lib.hid hnl; clear b2 hnl
 have hnot := nt
 obtain ⟨S0, M0, HO, NO⟩ := h0.beg #[.int .i64 32, .int .i64 x, .int .i64 yy, .int .i64 s, .int .u16 nn] 47; obtain ⟨hc, hf⟩ := S0.out.cm; clear h0; go_enter Tryz.func26, Tryz.ntmps26; go_upto_region 1 with (fail); generalize w.alloc (.cells #[.int .i64 32, .int .i64 x, .int .i64 yy, .int .i64 s, .int .u16 nn] 47) = w0 at S0 M0 HO hc hf ⊢; generalize w.heap.size = ob at HO NO ⊢; have ho := HO.out.2.1; go_wp2_with fail
 with_reducible refine (Alu.z_r y.s.r.f F.out.1 F.out.2 _).mono ?_
 rintro e w_ ⟨rfl, rfl⟩; go_wp2_with fail
 with_reducible refine (Alu.c_r y.s.r.f F.out.1 F.out.2 _).mono ?_
 rintro e w_ ⟨rfl, rfl⟩; go_upto_region 4 with (fail); clear e2 e4 e6; replace S0 := Lib.hid S0.out.drew; replace M0 := Lib.hid (M0.out.trans (PM.drew P R M tb v w0)); replace HO := Lib.hid HO.out.drew; clear ho hc hf
 refine rh HO (fun hHeld => ?_)
 generalize World.drew w0 = u0 at hHeld S0 M0 HO ⊢; refine tz 0 ?_; refine tz 1 ?_; refine tz 2 ?_; refine tz 4 ?_; refine tz 5 ?_
 refine re1 3 (fun K hK => ?_)
 obtain ⟨hc, hf⟩ := S0.out.cm; go_simp; clear hc hf
 refine hK.out _ _ hHeld (fun hNew => ?_); clear hK K hHeld; have hHeld := hNew; clear hNew
 try simp only [Act.put, qqA, qqB, qqC]
 refine re1 6 (fun K hK => ?_)
 go_simp
 go_wp2_with (go_at_call 35; (with_reducible refine (Reg.is_r y.s.r x F.out.1 F.out.2 _).mono ?_); rintro e w1 ⟨rfl, hb⟩)
 have s' := S0.out.below hb; have m' : PM P R M tb v u0 v w1 := PM.of hb; clear hb; replace HO := m'.two HO NO; clear NO; obtain ⟨HO, NO⟩ := HO
 refine hK.out _ _ ⟨HO.out.2.1, trivial⟩ (fun hNew => ?_); clear hK K hHeld; have hHeld := hNew; clear hNew
 have M1 := M0.tr m'; have S1 := Lib.hid s'; clear s' m'; refine tz 7 ?_
 refine wpAnyH_done (by kernel_rfl) ?_ _
 obtain ⟨hc, hf⟩ := S1.out.cm; have ho := HO.out.2.1; clear hHeld; have tv := S1.out.thrub x; go_wp2_with fail
 with_reducible refine (mfar_p S1.out (by omega) x x0 x1).mono ?_
 rintro e w2 ⟨rfl, v2, s', m'⟩; replace HO := m'.two HO NO; clear ho NO; obtain ⟨HO, NO⟩ := HO; have ho := HO.out.2.1; have M2 := M1.tr m'; obtain ⟨y2, hy⟩ : ∃ q_, q_ = thruS x y := ⟨_, rfl⟩; rw [← hy] at s'; have Y2 := Lib.hid hy; clear hy; clear hc hf; obtain ⟨hc, hf⟩ := s'.cm; have S2 := Lib.hid s'; clear s' m'
 have tm : y2.m = y.m := by rw [Y2.out]; exact thruS_m x y
 have TM := Lib.hid tm; clear tm; go_wp2_with fail
 with_reducible refine (dor_p S2.out (by omega) (thruV x y) tv.1 tv.2).mono ?_
 rintro e w3 ⟨rfl, v3, s', m'⟩; replace HO := m'.two HO NO; clear ho NO; obtain ⟨HO, NO⟩ := HO; have ho := HO.out.2.1; have M3 := M2.tr m'; obtain ⟨y3, hy⟩ : ∃ q_, q_ = rd 1 (thruV x y) y2 := ⟨_, rfl⟩; rw [← hy] at s'; have Y3 := Lib.hid hy; clear hy; clear hc hf; obtain ⟨hc, hf⟩ := s'.cm; have S3 := Lib.hid s'; clear s' m'; have om := S2.out.okm (thruV x y); have Q0 := Lib.hid (S3.out.stA (y2.m (thruV x y)) om.1 om.2)
 (go_wp2; go_ret)
 refine ⟨rfl, v3, ?_, (M3.out.trans Q0.out.2)⟩
 have q := Q0.out.1; have e := Y3.out.symm; subst e; have e := Y2.out.symm; subst e
 have e : setA ((thruS x y).m (thruV x y)) (rd 1 (thruV x y) (thruS x y)) = setA (y.m (thruV x y)) (rd 1 (thruV x y) (thruS x y)) := by rw [thruS_m]
 rw [e] at q
 exact q.mo
theorem d_33 (h0 : Sys noD memC w P R M tb v y n) (hn : n < 900000) (x yy s nn nl at_ : Int) (n0 : 0 ≤ nn) (n1 : nn < 65536) (hnl : nn % 256 = nl) (x0 : 0 ≤ x) (x1 : x < 4) : Calls Tryz.prog 26 #[.pointer (some ⟨P, 0, none⟩), .pointer (some ⟨R, 0, none⟩), .agg #[.int .i64 33, .int .i64 x, .int .i64 yy, .int .i64 s, .int .u16 nn], .int .u16 at_] w (PE noD memC P R M tb v w (.bool true) (wr (thruV x y) y.s.r.a (thruS x y)) (n + 4)) := by
 have f0 := h0.ok.2.1.1; have f1 := h0.ok.2.1.2
 have b2 : 0 ≤ nl ∧ nl < 256 := by omega
 have NB := Lib.hid b2
 have e2 : nn.tmod 256 = nl := by rw [Int.tmod_eq_emod_of_nonneg n0]; exact hnl
 have e4 : IntKind.u16.wrap nl = nl := IntWalk.u16_in nl (by omega); have e6 : nl % 256 = nl := Int.emod_eq_of_lt b2.1 b2.2; have F := Lib.hid (And.intro f0 f1); have HNL := Lib.hid hnl; clear b2 hnl
 have hnot := nt
 obtain ⟨S0, M0, HO, NO⟩ := h0.beg #[.int .i64 33, .int .i64 x, .int .i64 yy, .int .i64 s, .int .u16 nn] 47; obtain ⟨hc, hf⟩ := S0.out.cm; clear h0; go_enter Tryz.func26, Tryz.ntmps26; go_upto_region 1 with (fail); generalize w.alloc (.cells #[.int .i64 33, .int .i64 x, .int .i64 yy, .int .i64 s, .int .u16 nn] 47) = w0 at S0 M0 HO hc hf ⊢; generalize w.heap.size = ob at HO NO ⊢; have ho := HO.out.2.1; go_wp2_with fail
 with_reducible refine (Alu.z_r y.s.r.f F.out.1 F.out.2 _).mono ?_
 rintro e w_ ⟨rfl, rfl⟩; go_wp2_with fail
 with_reducible refine (Alu.c_r y.s.r.f F.out.1 F.out.2 _).mono ?_
 rintro e w_ ⟨rfl, rfl⟩; go_upto_region 4 with (fail); clear e2 e4 e6; replace S0 := Lib.hid S0.out.drew; replace M0 := Lib.hid (M0.out.trans (PM.drew P R M tb v w0)); replace HO := Lib.hid HO.out.drew; clear ho hc hf
 refine rh HO (fun hHeld => ?_)
 generalize World.drew w0 = u0 at hHeld S0 M0 HO ⊢; refine tz 0 ?_; refine tz 1 ?_; refine tz 2 ?_; refine tz 4 ?_; refine tz 5 ?_
 refine re1 3 (fun K hK => ?_)
 obtain ⟨hc, hf⟩ := S0.out.cm; go_simp; clear hc hf
 refine hK.out _ _ hHeld (fun hNew => ?_); clear hK K hHeld; have hHeld := hNew; clear hNew
 try simp only [Act.put, qqA, qqB, qqC]
 refine re1 6 (fun K hK => ?_)
 go_simp
 go_wp2_with (go_at_call 35; (with_reducible refine (Reg.is_r y.s.r x F.out.1 F.out.2 _).mono ?_); rintro e w1 ⟨rfl, hb⟩)
 have s' := S0.out.below hb; have m' : PM P R M tb v u0 v w1 := PM.of hb; clear hb; replace HO := m'.two HO NO; clear NO; obtain ⟨HO, NO⟩ := HO
 refine hK.out _ _ ⟨HO.out.2.1, trivial⟩ (fun hNew => ?_); clear hK K hHeld; have hHeld := hNew; clear hNew
 have M1 := M0.tr m'; have S1 := Lib.hid s'; clear s' m'; refine tz 7 ?_
 refine wpAnyH_done (by kernel_rfl) ?_ _
 obtain ⟨hc, hf⟩ := S1.out.cm; have ho := HO.out.2.1; clear hHeld; have tv := S1.out.thrub x; go_wp2_with fail
 with_reducible refine (mfar_p S1.out (by omega) x x0 x1).mono ?_
 rintro e w2 ⟨rfl, v2, s', m'⟩; replace HO := m'.two HO NO; clear ho NO; obtain ⟨HO, NO⟩ := HO; have ho := HO.out.2.1; have M2 := M1.tr m'; obtain ⟨y2, hy⟩ : ∃ q_, q_ = thruS x y := ⟨_, rfl⟩; rw [← hy] at s'; have Y2 := Lib.hid hy; clear hy; clear hc hf; obtain ⟨hc, hf⟩ := s'.cm; have S2 := Lib.hid s'; clear s' m'; have ab0 := S2.out.ok.1.1; have ab1 := S2.out.ok.1.2; go_wp2_with fail
 with_reducible refine (dow_p S2.out (by omega) (thruV x y) y2.s.r.a tv.1 tv.2 ab0 ab1).mono ?_
 rintro e w3 ⟨rfl, v3, s', m'⟩; replace HO := m'.two HO NO; clear ho NO; obtain ⟨HO, NO⟩ := HO; have ho := HO.out.2.1; have M3 := M2.tr m'; obtain ⟨y3, hy⟩ : ∃ q_, q_ = wr (thruV x y) y2.s.r.a y2 := ⟨_, rfl⟩; rw [← hy] at s'; have Y3 := Lib.hid hy; clear hy; clear hc hf; obtain ⟨hc, hf⟩ := s'.cm; have S3 := Lib.hid s'; clear s' m'; go_wp2; go_ret
 refine ⟨rfl, v3, ?_, M3.out⟩
 have q := S3.out; have e := Y3.out.symm; subst e; have e := Y2.out.symm; subst e; rw [thruS_a] at q
 exact q.mo
theorem d_34 (h0 : Sys noD memC w P R M tb v y n) (hn : n < 900000) (x yy s nn nl at_ : Int) (n0 : 0 ≤ nn) (n1 : nn < 65536) (hnl : nn % 256 = nl) : Calls Tryz.prog 26 #[.pointer (some ⟨P, 0, none⟩), .pointer (some ⟨R, 0, none⟩), .agg #[.int .i64 34, .int .i64 x, .int .i64 yy, .int .i64 s, .int .u16 nn], .int .u16 at_] w (PE noD memC P R M tb v w (.bool true) (setA (y.m (65280 + nl)) (rd 1 (65280 + nl) y)) (n + 4)) := by
 have f0 := h0.ok.2.1.1; have f1 := h0.ok.2.1.2
 have b2 : 0 ≤ nl ∧ nl < 256 := by omega
 have NB := Lib.hid b2
 have e2 : nn.tmod 256 = nl := by rw [Int.tmod_eq_emod_of_nonneg n0]; exact hnl
 have e4 : IntKind.u16.wrap nl = nl := IntWalk.u16_in nl (by omega); have e6 : nl % 256 = nl := Int.emod_eq_of_lt b2.1 b2.2; have F := Lib.hid (And.intro f0 f1); have HNL := Lib.hid hnl; clear b2 hnl
 have hnot := nt
 obtain ⟨S0, M0, HO, NO⟩ := h0.beg #[.int .i64 34, .int .i64 x, .int .i64 yy, .int .i64 s, .int .u16 nn] 47; obtain ⟨hc, hf⟩ := S0.out.cm; clear h0; go_enter Tryz.func26, Tryz.ntmps26; go_upto_region 1 with (fail); generalize w.alloc (.cells #[.int .i64 34, .int .i64 x, .int .i64 yy, .int .i64 s, .int .u16 nn] 47) = w0 at S0 M0 HO hc hf ⊢; generalize w.heap.size = ob at HO NO ⊢; have ho := HO.out.2.1; go_wp2_with fail
 with_reducible refine (Alu.z_r y.s.r.f F.out.1 F.out.2 _).mono ?_
 rintro e w_ ⟨rfl, rfl⟩; go_wp2_with fail
 with_reducible refine (Alu.c_r y.s.r.f F.out.1 F.out.2 _).mono ?_
 rintro e w_ ⟨rfl, rfl⟩; go_upto_region 4 with (fail); clear e2 e4 e6; replace S0 := Lib.hid S0.out.drew; replace M0 := Lib.hid (M0.out.trans (PM.drew P R M tb v w0)); replace HO := Lib.hid HO.out.drew; clear ho hc hf
 refine rh HO (fun hHeld => ?_)
 generalize World.drew w0 = u0 at hHeld S0 M0 HO ⊢; refine tz 0 ?_; refine tz 1 ?_; refine tz 2 ?_; refine tz 4 ?_; refine tz 5 ?_
 refine re1 3 (fun K hK => ?_)
 obtain ⟨hc, hf⟩ := S0.out.cm; go_simp; clear hc hf
 refine hK.out _ _ hHeld (fun hNew => ?_); clear hK K hHeld; have hHeld := hNew; clear hNew
 try simp only [Act.put, qqA, qqB, qqC]
 refine re1 6 (fun K hK => ?_)
 go_simp
 go_wp2_with (go_at_call 35; (with_reducible refine (Reg.is_r y.s.r x F.out.1 F.out.2 _).mono ?_); rintro e w1 ⟨rfl, hb⟩)
 have s' := S0.out.below hb; have m' : PM P R M tb v u0 v w1 := PM.of hb; clear hb; replace HO := m'.two HO NO; clear NO; obtain ⟨HO, NO⟩ := HO
 refine hK.out _ _ ⟨HO.out.2.1, trivial⟩ (fun hNew => ?_); clear hK K hHeld; have hHeld := hNew; clear hNew
 have M1 := M0.tr m'; have S1 := Lib.hid s'; clear s' m'; refine tz 7 ?_
 refine wpAnyH_done (by kernel_rfl) ?_ _
 obtain ⟨hc, hf⟩ := S1.out.cm; have ho := HO.out.2.1; clear hHeld; have nb0 := NB.out.1; have nb1 := NB.out.2; have om := S1.out.okm (65280 + nl); go_wp2_with fail
 with_reducible refine (dor_p S1.out (by omega) (65280 + nl) (by omega) (by omega)).mono ?_
 rintro e w2 ⟨rfl, v2, s', m'⟩; replace HO := m'.two HO NO; clear ho NO; obtain ⟨HO, NO⟩ := HO; have ho := HO.out.2.1; have M2 := M1.tr m'; obtain ⟨y2, hy⟩ : ∃ q_, q_ = rd 1 (65280 + nl) y := ⟨_, rfl⟩; rw [← hy] at s'; have Y2 := Lib.hid hy; clear hy; clear hc hf; obtain ⟨hc, hf⟩ := s'.cm; have S2 := Lib.hid s'; clear s' m'; have Q0 := Lib.hid (S2.out.stA (y.m (65280 + nl)) om.1 om.2)
 (go_wp2; go_ret)
 refine ⟨rfl, v2, ?_, (M2.out.trans Q0.out.2)⟩
 have q := Q0.out.1; have e := Y2.out.symm; subst e
 exact q.mo
theorem d_35 (h0 : Sys noD memC w P R M tb v y n) (hn : n < 900000) (x yy s nn nl at_ : Int) (n0 : 0 ≤ nn) (n1 : nn < 65536) (hnl : nn % 256 = nl) : Calls Tryz.prog 26 #[.pointer (some ⟨P, 0, none⟩), .pointer (some ⟨R, 0, none⟩), .agg #[.int .i64 35, .int .i64 x, .int .i64 yy, .int .i64 s, .int .u16 nn], .int .u16 at_] w (PE noD memC P R M tb v w (.bool true) (wr (65280 + nl) y.s.r.a y) (n + 4)) := by
 have f0 := h0.ok.2.1.1; have f1 := h0.ok.2.1.2
 have b2 : 0 ≤ nl ∧ nl < 256 := by omega
 have NB := Lib.hid b2
 have e2 : nn.tmod 256 = nl := by rw [Int.tmod_eq_emod_of_nonneg n0]; exact hnl
 have e4 : IntKind.u16.wrap nl = nl := IntWalk.u16_in nl (by omega); have e6 : nl % 256 = nl := Int.emod_eq_of_lt b2.1 b2.2; have F := Lib.hid (And.intro f0 f1); have HNL := Lib.hid hnl; clear b2 hnl
 have hnot := nt
 obtain ⟨S0, M0, HO, NO⟩ := h0.beg #[.int .i64 35, .int .i64 x, .int .i64 yy, .int .i64 s, .int .u16 nn] 47; obtain ⟨hc, hf⟩ := S0.out.cm; clear h0; go_enter Tryz.func26, Tryz.ntmps26; go_upto_region 1 with (fail); generalize w.alloc (.cells #[.int .i64 35, .int .i64 x, .int .i64 yy, .int .i64 s, .int .u16 nn] 47) = w0 at S0 M0 HO hc hf ⊢; generalize w.heap.size = ob at HO NO ⊢; have ho := HO.out.2.1; go_wp2_with fail
 with_reducible refine (Alu.z_r y.s.r.f F.out.1 F.out.2 _).mono ?_
 rintro e w_ ⟨rfl, rfl⟩; go_wp2_with fail
 with_reducible refine (Alu.c_r y.s.r.f F.out.1 F.out.2 _).mono ?_
 rintro e w_ ⟨rfl, rfl⟩; go_upto_region 4 with (fail); clear e2 e4 e6; replace S0 := Lib.hid S0.out.drew; replace M0 := Lib.hid (M0.out.trans (PM.drew P R M tb v w0)); replace HO := Lib.hid HO.out.drew; clear ho hc hf
 refine rh HO (fun hHeld => ?_)
 generalize World.drew w0 = u0 at hHeld S0 M0 HO ⊢; refine tz 0 ?_; refine tz 1 ?_; refine tz 2 ?_; refine tz 4 ?_; refine tz 5 ?_
 refine re1 3 (fun K hK => ?_)
 obtain ⟨hc, hf⟩ := S0.out.cm; go_simp; clear hc hf
 refine hK.out _ _ hHeld (fun hNew => ?_); clear hK K hHeld; have hHeld := hNew; clear hNew
 try simp only [Act.put, qqA, qqB, qqC]
 refine re1 6 (fun K hK => ?_)
 go_simp
 go_wp2_with (go_at_call 35; (with_reducible refine (Reg.is_r y.s.r x F.out.1 F.out.2 _).mono ?_); rintro e w1 ⟨rfl, hb⟩)
 have s' := S0.out.below hb; have m' : PM P R M tb v u0 v w1 := PM.of hb; clear hb; replace HO := m'.two HO NO; clear NO; obtain ⟨HO, NO⟩ := HO
 refine hK.out _ _ ⟨HO.out.2.1, trivial⟩ (fun hNew => ?_); clear hK K hHeld; have hHeld := hNew; clear hNew
 have M1 := M0.tr m'; have S1 := Lib.hid s'; clear s' m'; refine tz 7 ?_
 refine wpAnyH_done (by kernel_rfl) ?_ _
 obtain ⟨hc, hf⟩ := S1.out.cm; have ho := HO.out.2.1; clear hHeld; have ab0 := S1.out.ok.1.1; have ab1 := S1.out.ok.1.2; have nb0 := NB.out.1; have nb1 := NB.out.2; go_wp2_with fail
 with_reducible refine (dow_p S1.out (by omega) (65280 + nl) y.s.r.a (by omega) (by omega) ab0 ab1).mono ?_
 rintro e w2 ⟨rfl, v2, s', m'⟩; replace HO := m'.two HO NO; clear ho NO; obtain ⟨HO, NO⟩ := HO; have ho := HO.out.2.1; have M2 := M1.tr m'; obtain ⟨y2, hy⟩ : ∃ q_, q_ = wr (65280 + nl) y.s.r.a y := ⟨_, rfl⟩; rw [← hy] at s'; have Y2 := Lib.hid hy; clear hy; clear hc hf; obtain ⟨hc, hf⟩ := s'.cm; have S2 := Lib.hid s'; clear s' m'; go_wp2; go_ret
 refine ⟨rfl, v2, ?_, M2.out⟩
 have q := S2.out; have e := Y2.out.symm; subst e
 exact q.mo
theorem d_36 (h0 : Sys noD memC w P R M tb v y n) (hn : n < 900000) (x yy s nn nl at_ : Int) (n0 : 0 ≤ nn) (n1 : nn < 65536) (hnl : nn % 256 = nl) : Calls Tryz.prog 26 #[.pointer (some ⟨P, 0, none⟩), .pointer (some ⟨R, 0, none⟩), .agg #[.int .i64 36, .int .i64 x, .int .i64 yy, .int .i64 s, .int .u16 nn], .int .u16 at_] w (PE noD memC P R M tb v w (.bool true) (setA (y.m (65280 + y.s.r.c)) (rd 1 (65280 + y.s.r.c) y)) (n + 4)) := by
 have f0 := h0.ok.2.1.1; have f1 := h0.ok.2.1.2
 have b2 : 0 ≤ nl ∧ nl < 256 := by omega
 have NB := Lib.hid b2
 have e2 : nn.tmod 256 = nl := by rw [Int.tmod_eq_emod_of_nonneg n0]; exact hnl
 have e4 : IntKind.u16.wrap nl = nl := IntWalk.u16_in nl (by omega); have e6 : nl % 256 = nl := Int.emod_eq_of_lt b2.1 b2.2; have F := Lib.hid (And.intro f0 f1); have HNL := Lib.hid hnl; clear b2 hnl
 have hnot := nt
 obtain ⟨S0, M0, HO, NO⟩ := h0.beg #[.int .i64 36, .int .i64 x, .int .i64 yy, .int .i64 s, .int .u16 nn] 47; obtain ⟨hc, hf⟩ := S0.out.cm; clear h0; go_enter Tryz.func26, Tryz.ntmps26; go_upto_region 1 with (fail); generalize w.alloc (.cells #[.int .i64 36, .int .i64 x, .int .i64 yy, .int .i64 s, .int .u16 nn] 47) = w0 at S0 M0 HO hc hf ⊢; generalize w.heap.size = ob at HO NO ⊢; have ho := HO.out.2.1; go_wp2_with fail
 with_reducible refine (Alu.z_r y.s.r.f F.out.1 F.out.2 _).mono ?_
 rintro e w_ ⟨rfl, rfl⟩; go_wp2_with fail
 with_reducible refine (Alu.c_r y.s.r.f F.out.1 F.out.2 _).mono ?_
 rintro e w_ ⟨rfl, rfl⟩; go_upto_region 4 with (fail); clear e2 e4 e6; replace S0 := Lib.hid S0.out.drew; replace M0 := Lib.hid (M0.out.trans (PM.drew P R M tb v w0)); replace HO := Lib.hid HO.out.drew; clear ho hc hf
 refine rh HO (fun hHeld => ?_)
 generalize World.drew w0 = u0 at hHeld S0 M0 HO ⊢; refine tz 0 ?_; refine tz 1 ?_; refine tz 2 ?_; refine tz 4 ?_; refine tz 5 ?_
 refine re1 3 (fun K hK => ?_)
 obtain ⟨hc, hf⟩ := S0.out.cm; go_simp; clear hc hf
 refine hK.out _ _ hHeld (fun hNew => ?_); clear hK K hHeld; have hHeld := hNew; clear hNew
 try simp only [Act.put, qqA, qqB, qqC]
 refine re1 6 (fun K hK => ?_)
 go_simp
 go_wp2_with (go_at_call 35; (with_reducible refine (Reg.is_r y.s.r x F.out.1 F.out.2 _).mono ?_); rintro e w1 ⟨rfl, hb⟩)
 have s' := S0.out.below hb; have m' : PM P R M tb v u0 v w1 := PM.of hb; clear hb; replace HO := m'.two HO NO; clear NO; obtain ⟨HO, NO⟩ := HO
 refine hK.out _ _ ⟨HO.out.2.1, trivial⟩ (fun hNew => ?_); clear hK K hHeld; have hHeld := hNew; clear hNew
 have M1 := M0.tr m'; have S1 := Lib.hid s'; clear s' m'; refine tz 7 ?_
 refine wpAnyH_done (by kernel_rfl) ?_ _
 obtain ⟨hc, hf⟩ := S1.out.cm; have ho := HO.out.2.1; clear hHeld; have cb0 := S1.out.ok.2.2.2.1.1; have cb1 := S1.out.ok.2.2.2.1.2; have om := S1.out.okm (65280 + y.s.r.c); go_wp2_with fail
 with_reducible refine (dor_p S1.out (by omega) (65280 + y.s.r.c) (by omega) (by omega)).mono ?_
 rintro e w2 ⟨rfl, v2, s', m'⟩; replace HO := m'.two HO NO; clear ho NO; obtain ⟨HO, NO⟩ := HO; have ho := HO.out.2.1; have M2 := M1.tr m'; obtain ⟨y2, hy⟩ : ∃ q_, q_ = rd 1 (65280 + y.s.r.c) y := ⟨_, rfl⟩; rw [← hy] at s'; have Y2 := Lib.hid hy; clear hy; clear hc hf; obtain ⟨hc, hf⟩ := s'.cm; have S2 := Lib.hid s'; clear s' m'; have Q0 := Lib.hid (S2.out.stA (y.m (65280 + y.s.r.c)) om.1 om.2)
 (go_wp2; go_ret)
 refine ⟨rfl, v2, ?_, (M2.out.trans Q0.out.2)⟩
 have q := Q0.out.1; have e := Y2.out.symm; subst e
 exact q.mo
theorem d_37 (h0 : Sys noD memC w P R M tb v y n) (hn : n < 900000) (x yy s nn nl at_ : Int) (n0 : 0 ≤ nn) (n1 : nn < 65536) (hnl : nn % 256 = nl) : Calls Tryz.prog 26 #[.pointer (some ⟨P, 0, none⟩), .pointer (some ⟨R, 0, none⟩), .agg #[.int .i64 37, .int .i64 x, .int .i64 yy, .int .i64 s, .int .u16 nn], .int .u16 at_] w (PE noD memC P R M tb v w (.bool true) (wr (65280 + y.s.r.c) y.s.r.a y) (n + 4)) := by
 have f0 := h0.ok.2.1.1; have f1 := h0.ok.2.1.2
 have b2 : 0 ≤ nl ∧ nl < 256 := by omega
 have NB := Lib.hid b2
 have e2 : nn.tmod 256 = nl := by rw [Int.tmod_eq_emod_of_nonneg n0]; exact hnl
 have e4 : IntKind.u16.wrap nl = nl := IntWalk.u16_in nl (by omega); have e6 : nl % 256 = nl := Int.emod_eq_of_lt b2.1 b2.2; have F := Lib.hid (And.intro f0 f1); have HNL := Lib.hid hnl; clear b2 hnl
 have hnot := nt
 obtain ⟨S0, M0, HO, NO⟩ := h0.beg #[.int .i64 37, .int .i64 x, .int .i64 yy, .int .i64 s, .int .u16 nn] 47; obtain ⟨hc, hf⟩ := S0.out.cm; clear h0; go_enter Tryz.func26, Tryz.ntmps26; go_upto_region 1 with (fail); generalize w.alloc (.cells #[.int .i64 37, .int .i64 x, .int .i64 yy, .int .i64 s, .int .u16 nn] 47) = w0 at S0 M0 HO hc hf ⊢; generalize w.heap.size = ob at HO NO ⊢; have ho := HO.out.2.1; go_wp2_with fail
 with_reducible refine (Alu.z_r y.s.r.f F.out.1 F.out.2 _).mono ?_
 rintro e w_ ⟨rfl, rfl⟩; go_wp2_with fail
 with_reducible refine (Alu.c_r y.s.r.f F.out.1 F.out.2 _).mono ?_
 rintro e w_ ⟨rfl, rfl⟩; go_upto_region 4 with (fail); clear e2 e4 e6; replace S0 := Lib.hid S0.out.drew; replace M0 := Lib.hid (M0.out.trans (PM.drew P R M tb v w0)); replace HO := Lib.hid HO.out.drew; clear ho hc hf
 refine rh HO (fun hHeld => ?_)
 generalize World.drew w0 = u0 at hHeld S0 M0 HO ⊢; refine tz 0 ?_; refine tz 1 ?_; refine tz 2 ?_; refine tz 4 ?_; refine tz 5 ?_
 refine re1 3 (fun K hK => ?_)
 obtain ⟨hc, hf⟩ := S0.out.cm; go_simp; clear hc hf
 refine hK.out _ _ hHeld (fun hNew => ?_); clear hK K hHeld; have hHeld := hNew; clear hNew
 try simp only [Act.put, qqA, qqB, qqC]
 refine re1 6 (fun K hK => ?_)
 go_simp
 go_wp2_with (go_at_call 35; (with_reducible refine (Reg.is_r y.s.r x F.out.1 F.out.2 _).mono ?_); rintro e w1 ⟨rfl, hb⟩)
 have s' := S0.out.below hb; have m' : PM P R M tb v u0 v w1 := PM.of hb; clear hb; replace HO := m'.two HO NO; clear NO; obtain ⟨HO, NO⟩ := HO
 refine hK.out _ _ ⟨HO.out.2.1, trivial⟩ (fun hNew => ?_); clear hK K hHeld; have hHeld := hNew; clear hNew
 have M1 := M0.tr m'; have S1 := Lib.hid s'; clear s' m'; refine tz 7 ?_
 refine wpAnyH_done (by kernel_rfl) ?_ _
 obtain ⟨hc, hf⟩ := S1.out.cm; have ho := HO.out.2.1; clear hHeld; have ab0 := S1.out.ok.1.1; have ab1 := S1.out.ok.1.2; have cb0 := S1.out.ok.2.2.2.1.1; have cb1 := S1.out.ok.2.2.2.1.2; have hw : IntKind.u16.wrap (65280 + y.s.r.c) = 65280 + y.s.r.c := IntWalk.u16_in _ (by omega); have hw0 : IntKind.u16.wrap y.s.r.c = y.s.r.c := IntWalk.u16_in _ (by omega)
 have DW := Lib.hid (show 0 ≤ 65280 + y.s.r.c ∧ 65280 + y.s.r.c < 65536 by omega)
 go_upto_region 117 with (fail); replace S1 := Lib.hid S1.out.drew; replace M1 := Lib.hid (M1.out.trans (PM.drew P R M tb v w1)); replace HO := Lib.hid HO.out.drew; clear ho hc hf
 refine rh HO (fun hHeld => ?_)
 generalize World.drew w1 = u1 at hHeld S1 M1 HO ⊢; refine tz 0 ?_; refine tz 1 ?_; refine tz 2 ?_; refine tz 3 ?_; refine tz 4 ?_; refine tz 8 ?_; refine tz 9 ?_; refine tz 10 ?_; refine tz 11 ?_
 refine wpAnyH_ready (rs := [5, 12]) (by kernel_rfl) (by simp) ?_
 refine (ac rfl (fun K hK => ?_) (ac rfl (fun K hK => ?_) AllReadyH.nil))
 ·skip
  obtain ⟨hc, hf⟩ := S1.out.cm; go_simp; clear hc hf
  refine hK.out _ _ hHeld (fun hNew => ?_); clear hK K hHeld; have hHeld := hNew; clear hNew
  try simp only [Act.put, qqA, qqB, qqC]
  refine tz 6 ?_; refine tz 7 ?_
  refine re1 12 (fun K hK => ?_)
  obtain ⟨hc, hf⟩ := S1.out.cm; go_simp; clear hc hf
  refine hK.out _ _ hHeld (fun hNew => ?_); clear hK K hHeld; have hHeld := hNew; clear hNew
  try simp only [Act.put, qqA, qqB, qqC]
  refine re1 13 (fun K hK => ?_)
  go_simp
  go_wp2_with (go_at_call 23; (with_reducible refine (dow_p S1.out (by clear hw hw0; omega) (65280 + y.s.r.c) y.s.r.a DW.out.1 DW.out.2 ab0 ab1).mono ?_); rintro e w2 ⟨rfl, v2, s', m'⟩)
  replace HO := m'.two HO NO; clear NO; obtain ⟨HO, NO⟩ := HO
  refine hK.out _ _ ⟨HO.out.2.1, trivial⟩ (fun hNew => ?_); clear hK K hHeld; have hHeld := hNew; clear hNew
  have M2 := M1.tr m'; obtain ⟨y2, hy⟩ : ∃ q_, q_ = wr (65280 + y.s.r.c) y.s.r.a y := ⟨_, rfl⟩; rw [← hy] at s'; have Y2 := Lib.hid hy; clear hy; have S2 := Lib.hid s'; clear s' m'
  refine wpAnyH_done (by kernel_rfl) ?_ _
  obtain ⟨hc, hf⟩ := S2.out.cm; have ho := HO.out.2.1; clear hHeld; clear hw hw0; go_wp2; go_ret
  refine ⟨rfl, v2, ?_, M2.out⟩
  have q := S2.out; have e := Y2.out.symm; subst e
  exact q.mo
 ·skip
  obtain ⟨hc, hf⟩ := S1.out.cm; go_simp; clear hc hf
  refine hK.out _ _ hHeld (fun hNew => ?_); clear hK K hHeld; have hHeld := hNew; clear hNew
  try simp only [Act.put, qqA, qqB, qqC]
  refine re1 5 (fun K hK => ?_)
  obtain ⟨hc, hf⟩ := S1.out.cm; go_simp; clear hc hf
  refine hK.out _ _ hHeld (fun hNew => ?_); clear hK K hHeld; have hHeld := hNew; clear hNew
  try simp only [Act.put, qqA, qqB, qqC]
  refine tz 6 ?_; refine tz 7 ?_
  refine re1 13 (fun K hK => ?_)
  go_simp
  go_wp2_with (go_at_call 23; (with_reducible refine (dow_p S1.out (by clear hw hw0; omega) (65280 + y.s.r.c) y.s.r.a DW.out.1 DW.out.2 ab0 ab1).mono ?_); rintro e w2 ⟨rfl, v2, s', m'⟩)
  replace HO := m'.two HO NO; clear NO; obtain ⟨HO, NO⟩ := HO
  refine hK.out _ _ ⟨HO.out.2.1, trivial⟩ (fun hNew => ?_); clear hK K hHeld; have hHeld := hNew; clear hNew
  have M2 := M1.tr m'; obtain ⟨y2, hy⟩ : ∃ q_, q_ = wr (65280 + y.s.r.c) y.s.r.a y := ⟨_, rfl⟩; rw [← hy] at s'; have Y2 := Lib.hid hy; clear hy; have S2 := Lib.hid s'; clear s' m'
  refine wpAnyH_done (by kernel_rfl) ?_ _
  obtain ⟨hc, hf⟩ := S2.out.cm; have ho := HO.out.2.1; clear hHeld; clear hw hw0; go_wp2; go_ret
  refine ⟨rfl, v2, ?_, M2.out⟩
  have q := S2.out; have e := Y2.out.symm; subst e
  exact q.mo
theorem d_38 (h0 : Sys noD memC w P R M tb v y n) (hn : n < 900000) (x yy s nn nl at_ : Int) (n0 : 0 ≤ nn) (n1 : nn < 65536) (hnl : nn % 256 = nl) : Calls Tryz.prog 26 #[.pointer (some ⟨P, 0, none⟩), .pointer (some ⟨R, 0, none⟩), .agg #[.int .i64 38, .int .i64 x, .int .i64 yy, .int .i64 s, .int .u16 nn], .int .u16 at_] w (PE noD memC P R M tb v w (.bool true) (setA (y.m nn) (rd 1 nn y)) (n + 4)) := by
 have f0 := h0.ok.2.1.1; have f1 := h0.ok.2.1.2
 have b2 : 0 ≤ nl ∧ nl < 256 := by omega
 have NB := Lib.hid b2
 have e2 : nn.tmod 256 = nl := by rw [Int.tmod_eq_emod_of_nonneg n0]; exact hnl
 have e4 : IntKind.u16.wrap nl = nl := IntWalk.u16_in nl (by omega); have e6 : nl % 256 = nl := Int.emod_eq_of_lt b2.1 b2.2; have F := Lib.hid (And.intro f0 f1); have HNL := Lib.hid hnl; clear b2 hnl
 have hnot := nt
 obtain ⟨S0, M0, HO, NO⟩ := h0.beg #[.int .i64 38, .int .i64 x, .int .i64 yy, .int .i64 s, .int .u16 nn] 47; obtain ⟨hc, hf⟩ := S0.out.cm; clear h0; go_enter Tryz.func26, Tryz.ntmps26; go_upto_region 1 with (fail); generalize w.alloc (.cells #[.int .i64 38, .int .i64 x, .int .i64 yy, .int .i64 s, .int .u16 nn] 47) = w0 at S0 M0 HO hc hf ⊢; generalize w.heap.size = ob at HO NO ⊢; have ho := HO.out.2.1; go_wp2_with fail
 with_reducible refine (Alu.z_r y.s.r.f F.out.1 F.out.2 _).mono ?_
 rintro e w_ ⟨rfl, rfl⟩; go_wp2_with fail
 with_reducible refine (Alu.c_r y.s.r.f F.out.1 F.out.2 _).mono ?_
 rintro e w_ ⟨rfl, rfl⟩; go_upto_region 4 with (fail); clear e2 e4 e6; replace S0 := Lib.hid S0.out.drew; replace M0 := Lib.hid (M0.out.trans (PM.drew P R M tb v w0)); replace HO := Lib.hid HO.out.drew; clear ho hc hf
 refine rh HO (fun hHeld => ?_)
 generalize World.drew w0 = u0 at hHeld S0 M0 HO ⊢; refine tz 0 ?_; refine tz 1 ?_; refine tz 2 ?_; refine tz 4 ?_; refine tz 5 ?_
 refine re1 3 (fun K hK => ?_)
 obtain ⟨hc, hf⟩ := S0.out.cm; go_simp; clear hc hf
 refine hK.out _ _ hHeld (fun hNew => ?_); clear hK K hHeld; have hHeld := hNew; clear hNew
 try simp only [Act.put, qqA, qqB, qqC]
 refine re1 6 (fun K hK => ?_)
 go_simp
 go_wp2_with (go_at_call 35; (with_reducible refine (Reg.is_r y.s.r x F.out.1 F.out.2 _).mono ?_); rintro e w1 ⟨rfl, hb⟩)
 have s' := S0.out.below hb; have m' : PM P R M tb v u0 v w1 := PM.of hb; clear hb; replace HO := m'.two HO NO; clear NO; obtain ⟨HO, NO⟩ := HO
 refine hK.out _ _ ⟨HO.out.2.1, trivial⟩ (fun hNew => ?_); clear hK K hHeld; have hHeld := hNew; clear hNew
 have M1 := M0.tr m'; have S1 := Lib.hid s'; clear s' m'; refine tz 7 ?_
 refine wpAnyH_done (by kernel_rfl) ?_ _
 obtain ⟨hc, hf⟩ := S1.out.cm; have ho := HO.out.2.1; clear hHeld; have om := S1.out.okm nn; go_wp2_with fail
 with_reducible refine (dor_p S1.out (by omega) nn n0 n1).mono ?_
 rintro e w2 ⟨rfl, v2, s', m'⟩; replace HO := m'.two HO NO; clear ho NO; obtain ⟨HO, NO⟩ := HO; have ho := HO.out.2.1; have M2 := M1.tr m'; obtain ⟨y2, hy⟩ : ∃ q_, q_ = rd 1 nn y := ⟨_, rfl⟩; rw [← hy] at s'; have Y2 := Lib.hid hy; clear hy; clear hc hf; obtain ⟨hc, hf⟩ := s'.cm; have S2 := Lib.hid s'; clear s' m'; have Q0 := Lib.hid (S2.out.stA (y.m nn) om.1 om.2)
 (go_wp2; go_ret)
 refine ⟨rfl, v2, ?_, (M2.out.trans Q0.out.2)⟩
 have q := Q0.out.1; have e := Y2.out.symm; subst e
 exact q.mo
theorem d_39 (h0 : Sys noD memC w P R M tb v y n) (hn : n < 900000) (x yy s nn nl at_ : Int) (n0 : 0 ≤ nn) (n1 : nn < 65536) (hnl : nn % 256 = nl) : Calls Tryz.prog 26 #[.pointer (some ⟨P, 0, none⟩), .pointer (some ⟨R, 0, none⟩), .agg #[.int .i64 39, .int .i64 x, .int .i64 yy, .int .i64 s, .int .u16 nn], .int .u16 at_] w (PE noD memC P R M tb v w (.bool true) (wr nn y.s.r.a y) (n + 4)) := by
 have f0 := h0.ok.2.1.1; have f1 := h0.ok.2.1.2
 have b2 : 0 ≤ nl ∧ nl < 256 := by omega
 have NB := Lib.hid b2
 have e2 : nn.tmod 256 = nl := by rw [Int.tmod_eq_emod_of_nonneg n0]; exact hnl
 have e4 : IntKind.u16.wrap nl = nl := IntWalk.u16_in nl (by omega); have e6 : nl % 256 = nl := Int.emod_eq_of_lt b2.1 b2.2; have F := Lib.hid (And.intro f0 f1); have HNL := Lib.hid hnl; clear b2 hnl
 have hnot := nt
 obtain ⟨S0, M0, HO, NO⟩ := h0.beg #[.int .i64 39, .int .i64 x, .int .i64 yy, .int .i64 s, .int .u16 nn] 47; obtain ⟨hc, hf⟩ := S0.out.cm; clear h0; go_enter Tryz.func26, Tryz.ntmps26; go_upto_region 1 with (fail); generalize w.alloc (.cells #[.int .i64 39, .int .i64 x, .int .i64 yy, .int .i64 s, .int .u16 nn] 47) = w0 at S0 M0 HO hc hf ⊢; generalize w.heap.size = ob at HO NO ⊢; have ho := HO.out.2.1; go_wp2_with fail
 with_reducible refine (Alu.z_r y.s.r.f F.out.1 F.out.2 _).mono ?_
 rintro e w_ ⟨rfl, rfl⟩; go_wp2_with fail
 with_reducible refine (Alu.c_r y.s.r.f F.out.1 F.out.2 _).mono ?_
 rintro e w_ ⟨rfl, rfl⟩; go_upto_region 4 with (fail); clear e2 e4 e6; replace S0 := Lib.hid S0.out.drew; replace M0 := Lib.hid (M0.out.trans (PM.drew P R M tb v w0)); replace HO := Lib.hid HO.out.drew; clear ho hc hf
 refine rh HO (fun hHeld => ?_)
 generalize World.drew w0 = u0 at hHeld S0 M0 HO ⊢; refine tz 0 ?_; refine tz 1 ?_; refine tz 2 ?_; refine tz 4 ?_; refine tz 5 ?_
 refine re1 3 (fun K hK => ?_)
 obtain ⟨hc, hf⟩ := S0.out.cm; go_simp; clear hc hf
 refine hK.out _ _ hHeld (fun hNew => ?_); clear hK K hHeld; have hHeld := hNew; clear hNew
 try simp only [Act.put, qqA, qqB, qqC]
 refine re1 6 (fun K hK => ?_)
 go_simp
 go_wp2_with (go_at_call 35; (with_reducible refine (Reg.is_r y.s.r x F.out.1 F.out.2 _).mono ?_); rintro e w1 ⟨rfl, hb⟩)
 have s' := S0.out.below hb; have m' : PM P R M tb v u0 v w1 := PM.of hb; clear hb; replace HO := m'.two HO NO; clear NO; obtain ⟨HO, NO⟩ := HO
 refine hK.out _ _ ⟨HO.out.2.1, trivial⟩ (fun hNew => ?_); clear hK K hHeld; have hHeld := hNew; clear hNew
 have M1 := M0.tr m'; have S1 := Lib.hid s'; clear s' m'; refine tz 7 ?_
 refine wpAnyH_done (by kernel_rfl) ?_ _
 obtain ⟨hc, hf⟩ := S1.out.cm; have ho := HO.out.2.1; clear hHeld; have ab0 := S1.out.ok.1.1; have ab1 := S1.out.ok.1.2; go_upto_region 121 with (fail); replace S1 := Lib.hid S1.out.drew; replace M1 := Lib.hid (M1.out.trans (PM.drew P R M tb v w1)); replace HO := Lib.hid HO.out.drew; clear ho hc hf
 refine rh HO (fun hHeld => ?_)
 generalize World.drew w1 = u1 at hHeld S1 M1 HO ⊢; refine tz 0 ?_; refine tz 1 ?_; refine tz 2 ?_; refine tz 3 ?_; refine tz 4 ?_; refine tz 5 ?_; refine tz 6 ?_
 refine re1 7 (fun K hK => ?_)
 obtain ⟨hc, hf⟩ := S1.out.cm; go_simp; clear hc hf
 refine hK.out _ _ hHeld (fun hNew => ?_); clear hK K hHeld; have hHeld := hNew; clear hNew
 try simp only [Act.put, qqA, qqB, qqC]
 refine re1 8 (fun K hK => ?_)
 go_simp
 go_wp2_with (go_at_call 23; (with_reducible refine (dow_p S1.out (by omega) nn y.s.r.a n0 n1 ab0 ab1).mono ?_); rintro e w2 ⟨rfl, v2, s', m'⟩)
 replace HO := m'.two HO NO; clear NO; obtain ⟨HO, NO⟩ := HO
 refine hK.out _ _ ⟨HO.out.2.1, trivial⟩ (fun hNew => ?_); clear hK K hHeld; have hHeld := hNew; clear hNew
 have M2 := M1.tr m'; obtain ⟨y2, hy⟩ : ∃ q_, q_ = wr nn y.s.r.a y := ⟨_, rfl⟩; rw [← hy] at s'; have Y2 := Lib.hid hy; clear hy; have S2 := Lib.hid s'; clear s' m'
 refine wpAnyH_done (by kernel_rfl) ?_ _
 obtain ⟨hc, hf⟩ := S2.out.cm; have ho := HO.out.2.1; clear hHeld; go_wp2; go_ret
 refine ⟨rfl, v2, ?_, M2.out⟩
 have q := S2.out; have e := Y2.out.symm; subst e
 exact q.mo
end
end Go.Proofs.YtngdogldgcgnjaaGreat
