/-
  What an order does on the document's own processor, kind by kind: for every world; the processor is there.
-/
import Derived.Test.YtngdogldgcgnjaaGreatZ33
import Derived.Deep.Cut
set_option maxRecDepth 100000
set_option maxHeartbeats 8000000
namespace Go.Proofs.YtngdogldgcgnjaaGreat
open Go.ChangeShapes Go.WideShapes Go.ChangeAt Go.RowKit
open Reg
set_option linter.unusedVariables false
section
variable {w : World} {P R M tb n : Nat} {v : Value} {y : Sy}
theorem d_1 (h0 : Sys noD memC w P R M tb v y n) (hn : n < 900000) (x yy s nn nl at_ : Int) (n0 : 0 ≤ nn) (n1 : nn < 65536) (hnl : nn % 256 = nl) : Calls Tryz.prog 26 #[.pointer (some ⟨P, 0, none⟩), .pointer (some ⟨R, 0, none⟩), .agg #[.int .i64 1, .int .i64 x, .int .i64 yy, .int .i64 s, .int .u16 nn], .int .u16 at_] w (PE noD memC P R M tb v w (.bool true) (y) (n + 4)) := by
 have f0 := h0.ok.2.1.1; have f1 := h0.ok.2.1.2
 have b2 : 0 ≤ nl ∧ nl < 256 := by omega
 have NB := Lib.hid b2
 have e2 : nn.tmod 256 = nl := by rw [Int.tmod_eq_emod_of_nonneg n0]; exact hnl
 have e4 : IntKind.u16.wrap nl = nl := IntWalk.u16_in nl (by omega); have e6 : nl % 256 = nl := Int.emod_eq_of_lt b2.1 b2.2; have F := Lib.hid (And.intro f0 f1); have HNL := Lib.hid hnl; clear b2 hnl
 have hnot := nt
 obtain ⟨S0, M0, HO, NO⟩ := h0.beg #[.int .i64 1, .int .i64 x, .int .i64 yy, .int .i64 s, .int .u16 nn] 47; obtain ⟨hc, hf⟩ := S0.out.cm; clear h0; go_enter Tryz.func26, Tryz.ntmps26; go_upto_region 1 with (fail); generalize w.alloc (.cells #[.int .i64 1, .int .i64 x, .int .i64 yy, .int .i64 s, .int .u16 nn] 47) = w0 at S0 M0 HO hc hf ⊢; generalize w.heap.size = ob at HO NO ⊢; have ho := HO.out.2.1; go_wp2_with fail
 with_reducible refine (Alu.z_r y.s.r.f F.out.1 F.out.2 _).mono ?_
 rintro e w_ ⟨rfl, rfl⟩; go_wp2_with fail
 with_reducible refine (Alu.c_r y.s.r.f F.out.1 F.out.2 _).mono ?_
 rintro e w_ ⟨rfl, rfl⟩; go_upto_region 4 with (fail); clear e2 e4 e6; replace S0 := Lib.hid S0.out.drew; replace M0 := Lib.hid (M0.out.trans (PM.drew P R M tb v w0)); replace HO := Lib.hid HO.out.drew; clear ho hc hf
 refine rh HO (fun hHeld => ?_)
 generalize World.drew w0 = u0 at hHeld S0 M0 HO ⊢; refine tz 0 ?_; refine tz 1 ?_; refine tz 2 ?_; refine tz 4 ?_; refine tz 5 ?_
 refine re1 3 (fun K hK => ?_)
 obtain ⟨hc, hf⟩ := S0.out.cm; go_simp; clear hc hf
 refine hK.out _ _ hHeld (fun hNew => ?_); clear hK K hHeld; have hHeld := hNew; clear hNew
 try simp only [Act.put, qqA, qqB, qqC]
 refine re1 6 (fun K hK => ?_)
 go_simp
 go_wp2_with (go_at_call 35; (with_reducible refine (Reg.is_r y.s.r x F.out.1 F.out.2 _).mono ?_); rintro e w1 ⟨rfl, hb⟩)
 have s' := S0.out.below hb; have m' : PM P R M tb v u0 v w1 := PM.of hb; clear hb; replace HO := m'.two HO NO; clear NO; obtain ⟨HO, NO⟩ := HO
 refine hK.out _ _ ⟨HO.out.2.1, trivial⟩ (fun hNew => ?_); clear hK K hHeld; have hHeld := hNew; clear hNew
 have M1 := M0.tr m'; have S1 := Lib.hid s'; clear s' m'; refine tz 7 ?_
 refine wpAnyH_done (by kernel_rfl) ?_ _
 obtain ⟨hc, hf⟩ := S1.out.cm; have ho := HO.out.2.1; clear hHeld; go_wp2; go_ret
 refine ⟨rfl, v, ?_, M1.out⟩
 have q := S1.out
 exact q.mo
theorem d_2 (h0 : Sys noD memC w P R M tb v y n) (hn : n < 900000) (x yy s nn nl at_ : Int) (n0 : 0 ≤ nn) (n1 : nn < 65536) (hnl : nn % 256 = nl) : Calls Tryz.prog 26 #[.pointer (some ⟨P, 0, none⟩), .pointer (some ⟨R, 0, none⟩), .agg #[.int .i64 2, .int .i64 x, .int .i64 yy, .int .i64 s, .int .u16 nn], .int .u16 at_] w (PE noD memC P R M tb v w (.bool true) (setStop true y) (n + 4)) := by
 have f0 := h0.ok.2.1.1; have f1 := h0.ok.2.1.2
 have b2 : 0 ≤ nl ∧ nl < 256 := by omega
 have NB := Lib.hid b2
 have e2 : nn.tmod 256 = nl := by rw [Int.tmod_eq_emod_of_nonneg n0]; exact hnl
 have e4 : IntKind.u16.wrap nl = nl := IntWalk.u16_in nl (by omega); have e6 : nl % 256 = nl := Int.emod_eq_of_lt b2.1 b2.2; have F := Lib.hid (And.intro f0 f1); have HNL := Lib.hid hnl; clear b2 hnl
 have hnot := nt
 obtain ⟨S0, M0, HO, NO⟩ := h0.beg #[.int .i64 2, .int .i64 x, .int .i64 yy, .int .i64 s, .int .u16 nn] 47; obtain ⟨hc, hf⟩ := S0.out.cm; clear h0; go_enter Tryz.func26, Tryz.ntmps26; go_upto_region 1 with (fail); generalize w.alloc (.cells #[.int .i64 2, .int .i64 x, .int .i64 yy, .int .i64 s, .int .u16 nn] 47) = w0 at S0 M0 HO hc hf ⊢; generalize w.heap.size = ob at HO NO ⊢; have ho := HO.out.2.1; go_wp2_with fail
 with_reducible refine (Alu.z_r y.s.r.f F.out.1 F.out.2 _).mono ?_
 rintro e w_ ⟨rfl, rfl⟩; go_wp2_with fail
 with_reducible refine (Alu.c_r y.s.r.f F.out.1 F.out.2 _).mono ?_
 rintro e w_ ⟨rfl, rfl⟩; go_upto_region 4 with (fail); clear e2 e4 e6; replace S0 := Lib.hid S0.out.drew; replace M0 := Lib.hid (M0.out.trans (PM.drew P R M tb v w0)); replace HO := Lib.hid HO.out.drew; clear ho hc hf
 refine rh HO (fun hHeld => ?_)
 generalize World.drew w0 = u0 at hHeld S0 M0 HO ⊢; refine tz 0 ?_; refine tz 1 ?_; refine tz 2 ?_; refine tz 4 ?_; refine tz 5 ?_
 refine re1 3 (fun K hK => ?_)
 obtain ⟨hc, hf⟩ := S0.out.cm; go_simp; clear hc hf
 refine hK.out _ _ hHeld (fun hNew => ?_); clear hK K hHeld; have hHeld := hNew; clear hNew
 try simp only [Act.put, qqA, qqB, qqC]
 refine re1 6 (fun K hK => ?_)
 go_simp
 go_wp2_with (go_at_call 35; (with_reducible refine (Reg.is_r y.s.r x F.out.1 F.out.2 _).mono ?_); rintro e w1 ⟨rfl, hb⟩)
 have s' := S0.out.below hb; have m' : PM P R M tb v u0 v w1 := PM.of hb; clear hb; replace HO := m'.two HO NO; clear NO; obtain ⟨HO, NO⟩ := HO
 refine hK.out _ _ ⟨HO.out.2.1, trivial⟩ (fun hNew => ?_); clear hK K hHeld; have hHeld := hNew; clear hNew
 have M1 := M0.tr m'; have S1 := Lib.hid s'; clear s' m'; refine tz 7 ?_
 refine wpAnyH_done (by kernel_rfl) ?_ _
 obtain ⟨hc, hf⟩ := S1.out.cm; have ho := HO.out.2.1; clear hHeld; have Q0 := Lib.hid (S1.out.stStop true)
 (go_wp2; go_ret)
 refine ⟨rfl, v, ?_, (M1.out.trans Q0.out.2)⟩
 have q := Q0.out.1
 exact q.mo
theorem d_3 (h0 : Sys noD memC w P R M tb v y n) (hn : n < 900000) (x yy s nn nl at_ : Int) (n0 : 0 ≤ nn) (n1 : nn < 65536) (hnl : nn % 256 = nl) : Calls Tryz.prog 26 #[.pointer (some ⟨P, 0, none⟩), .pointer (some ⟨R, 0, none⟩), .agg #[.int .i64 3, .int .i64 x, .int .i64 yy, .int .i64 s, .int .u16 nn], .int .u16 at_] w (PE noD memC P R M tb v w (.bool true) (setHalt true y) (n + 4)) := by
 have f0 := h0.ok.2.1.1; have f1 := h0.ok.2.1.2
 have b2 : 0 ≤ nl ∧ nl < 256 := by omega
 have NB := Lib.hid b2
 have e2 : nn.tmod 256 = nl := by rw [Int.tmod_eq_emod_of_nonneg n0]; exact hnl
 have e4 : IntKind.u16.wrap nl = nl := IntWalk.u16_in nl (by omega); have e6 : nl % 256 = nl := Int.emod_eq_of_lt b2.1 b2.2; have F := Lib.hid (And.intro f0 f1); have HNL := Lib.hid hnl; clear b2 hnl
 have hnot := nt
 obtain ⟨S0, M0, HO, NO⟩ := h0.beg #[.int .i64 3, .int .i64 x, .int .i64 yy, .int .i64 s, .int .u16 nn] 47; obtain ⟨hc, hf⟩ := S0.out.cm; clear h0; go_enter Tryz.func26, Tryz.ntmps26; go_upto_region 1 with (fail); generalize w.alloc (.cells #[.int .i64 3, .int .i64 x, .int .i64 yy, .int .i64 s, .int .u16 nn] 47) = w0 at S0 M0 HO hc hf ⊢; generalize w.heap.size = ob at HO NO ⊢; have ho := HO.out.2.1; go_wp2_with fail
 with_reducible refine (Alu.z_r y.s.r.f F.out.1 F.out.2 _).mono ?_
 rintro e w_ ⟨rfl, rfl⟩; go_wp2_with fail
 with_reducible refine (Alu.c_r y.s.r.f F.out.1 F.out.2 _).mono ?_
 rintro e w_ ⟨rfl, rfl⟩; go_upto_region 4 with (fail); clear e2 e4 e6; replace S0 := Lib.hid S0.out.drew; replace M0 := Lib.hid (M0.out.trans (PM.drew P R M tb v w0)); replace HO := Lib.hid HO.out.drew; clear ho hc hf
 refine rh HO (fun hHeld => ?_)
 generalize World.drew w0 = u0 at hHeld S0 M0 HO ⊢; refine tz 0 ?_; refine tz 1 ?_; refine tz 2 ?_; refine tz 4 ?_; refine tz 5 ?_
 refine re1 3 (fun K hK => ?_)
 obtain ⟨hc, hf⟩ := S0.out.cm; go_simp; clear hc hf
 refine hK.out _ _ hHeld (fun hNew => ?_); clear hK K hHeld; have hHeld := hNew; clear hNew
 try simp only [Act.put, qqA, qqB, qqC]
 refine re1 6 (fun K hK => ?_)
 go_simp
 go_wp2_with (go_at_call 35; (with_reducible refine (Reg.is_r y.s.r x F.out.1 F.out.2 _).mono ?_); rintro e w1 ⟨rfl, hb⟩)
 have s' := S0.out.below hb; have m' : PM P R M tb v u0 v w1 := PM.of hb; clear hb; replace HO := m'.two HO NO; clear NO; obtain ⟨HO, NO⟩ := HO
 refine hK.out _ _ ⟨HO.out.2.1, trivial⟩ (fun hNew => ?_); clear hK K hHeld; have hHeld := hNew; clear hNew
 have M1 := M0.tr m'; have S1 := Lib.hid s'; clear s' m'; refine tz 7 ?_
 refine wpAnyH_done (by kernel_rfl) ?_ _
 obtain ⟨hc, hf⟩ := S1.out.cm; have ho := HO.out.2.1; clear hHeld; have Q0 := Lib.hid (S1.out.stHalt true)
 (go_wp2; go_ret)
 refine ⟨rfl, v, ?_, (M1.out.trans Q0.out.2)⟩
 have q := Q0.out.1
 exact q.mo
theorem d_4 (h0 : Sys noD memC w P R M tb v y n) (hn : n < 900000) (x yy s nn nl at_ : Int) (n0 : 0 ≤ nn) (n1 : nn < 65536) (hnl : nn % 256 = nl) (a0 : 0 ≤ at_) (a1 : at_ < 65536) : Calls Tryz.prog 26 #[.pointer (some ⟨P, 0, none⟩), .pointer (some ⟨R, 0, none⟩), .agg #[.int .i64 4, .int .i64 x, .int .i64 yy, .int .i64 s, .int .u16 nn], .int .u16 at_] w (PE noD memC P R M tb v w (.bool true) (setPC at_ y) (n + 4)) := by
 have f0 := h0.ok.2.1.1; have f1 := h0.ok.2.1.2
 have b2 : 0 ≤ nl ∧ nl < 256 := by omega
 have NB := Lib.hid b2
 have e2 : nn.tmod 256 = nl := by rw [Int.tmod_eq_emod_of_nonneg n0]; exact hnl
 have e4 : IntKind.u16.wrap nl = nl := IntWalk.u16_in nl (by omega); have e6 : nl % 256 = nl := Int.emod_eq_of_lt b2.1 b2.2; have F := Lib.hid (And.intro f0 f1); have HNL := Lib.hid hnl; clear b2 hnl
 have hnot := nt
 obtain ⟨S0, M0, HO, NO⟩ := h0.beg #[.int .i64 4, .int .i64 x, .int .i64 yy, .int .i64 s, .int .u16 nn] 47; obtain ⟨hc, hf⟩ := S0.out.cm; clear h0; go_enter Tryz.func26, Tryz.ntmps26; go_upto_region 1 with (fail); generalize w.alloc (.cells #[.int .i64 4, .int .i64 x, .int .i64 yy, .int .i64 s, .int .u16 nn] 47) = w0 at S0 M0 HO hc hf ⊢; generalize w.heap.size = ob at HO NO ⊢; have ho := HO.out.2.1; go_wp2_with fail
 with_reducible refine (Alu.z_r y.s.r.f F.out.1 F.out.2 _).mono ?_
 rintro e w_ ⟨rfl, rfl⟩; go_wp2_with fail
 with_reducible refine (Alu.c_r y.s.r.f F.out.1 F.out.2 _).mono ?_
 rintro e w_ ⟨rfl, rfl⟩; go_upto_region 4 with (fail); clear e2 e4 e6; replace S0 := Lib.hid S0.out.drew; replace M0 := Lib.hid (M0.out.trans (PM.drew P R M tb v w0)); replace HO := Lib.hid HO.out.drew; clear ho hc hf
 refine rh HO (fun hHeld => ?_)
 generalize World.drew w0 = u0 at hHeld S0 M0 HO ⊢; refine tz 0 ?_; refine tz 1 ?_; refine tz 2 ?_; refine tz 4 ?_; refine tz 5 ?_
 refine re1 3 (fun K hK => ?_)
 obtain ⟨hc, hf⟩ := S0.out.cm; go_simp; clear hc hf
 refine hK.out _ _ hHeld (fun hNew => ?_); clear hK K hHeld; have hHeld := hNew; clear hNew
 try simp only [Act.put, qqA, qqB, qqC]
 refine re1 6 (fun K hK => ?_)
 go_simp
 go_wp2_with (go_at_call 35; (with_reducible refine (Reg.is_r y.s.r x F.out.1 F.out.2 _).mono ?_); rintro e w1 ⟨rfl, hb⟩)
 have s' := S0.out.below hb; have m' : PM P R M tb v u0 v w1 := PM.of hb; clear hb; replace HO := m'.two HO NO; clear NO; obtain ⟨HO, NO⟩ := HO
 refine hK.out _ _ ⟨HO.out.2.1, trivial⟩ (fun hNew => ?_); clear hK K hHeld; have hHeld := hNew; clear hNew
 have M1 := M0.tr m'; have S1 := Lib.hid s'; clear s' m'; refine tz 7 ?_
 refine wpAnyH_done (by kernel_rfl) ?_ _
 obtain ⟨hc, hf⟩ := S1.out.cm; have ho := HO.out.2.1; clear hHeld; have Q0 := Lib.hid (S1.out.stPC at_ a0 a1)
 (go_wp2; go_ret)
 refine ⟨rfl, v, ?_, (M1.out.trans Q0.out.2)⟩
 have q := Q0.out.1
 exact q.mo
theorem d_5 (h0 : Sys noD memC w P R M tb v y n) (hn : n < 900000) (x yy s nn nl at_ : Int) (n0 : 0 ≤ nn) (n1 : nn < 65536) (hnl : nn % 256 = nl) : Calls Tryz.prog 26 #[.pointer (some ⟨P, 0, none⟩), .pointer (some ⟨R, 0, none⟩), .agg #[.int .i64 5, .int .i64 x, .int .i64 yy, .int .i64 s, .int .u16 nn], .int .u16 at_] w (PE noD memC P R M tb v w (.bool true) (setIme false y) (n + 4)) := by
 have f0 := h0.ok.2.1.1; have f1 := h0.ok.2.1.2
 have b2 : 0 ≤ nl ∧ nl < 256 := by omega
 have NB := Lib.hid b2
 have e2 : nn.tmod 256 = nl := by rw [Int.tmod_eq_emod_of_nonneg n0]; exact hnl
 have e4 : IntKind.u16.wrap nl = nl := IntWalk.u16_in nl (by omega); have e6 : nl % 256 = nl := Int.emod_eq_of_lt b2.1 b2.2; have F := Lib.hid (And.intro f0 f1); have HNL := Lib.hid hnl; clear b2 hnl
 have hnot := nt
 obtain ⟨S0, M0, HO, NO⟩ := h0.beg #[.int .i64 5, .int .i64 x, .int .i64 yy, .int .i64 s, .int .u16 nn] 47; obtain ⟨hc, hf⟩ := S0.out.cm; clear h0; go_enter Tryz.func26, Tryz.ntmps26; go_upto_region 1 with (fail); generalize w.alloc (.cells #[.int .i64 5, .int .i64 x, .int .i64 yy, .int .i64 s, .int .u16 nn] 47) = w0 at S0 M0 HO hc hf ⊢; generalize w.heap.size = ob at HO NO ⊢; have ho := HO.out.2.1; go_wp2_with fail
 with_reducible refine (Alu.z_r y.s.r.f F.out.1 F.out.2 _).mono ?_
 rintro e w_ ⟨rfl, rfl⟩; go_wp2_with fail
 with_reducible refine (Alu.c_r y.s.r.f F.out.1 F.out.2 _).mono ?_
 rintro e w_ ⟨rfl, rfl⟩; go_upto_region 4 with (fail); clear e2 e4 e6; replace S0 := Lib.hid S0.out.drew; replace M0 := Lib.hid (M0.out.trans (PM.drew P R M tb v w0)); replace HO := Lib.hid HO.out.drew; clear ho hc hf
 refine rh HO (fun hHeld => ?_)
 generalize World.drew w0 = u0 at hHeld S0 M0 HO ⊢; refine tz 0 ?_; refine tz 1 ?_; refine tz 2 ?_; refine tz 4 ?_; refine tz 5 ?_
 refine re1 3 (fun K hK => ?_)
 obtain ⟨hc, hf⟩ := S0.out.cm; go_simp; clear hc hf
 refine hK.out _ _ hHeld (fun hNew => ?_); clear hK K hHeld; have hHeld := hNew; clear hNew
 try simp only [Act.put, qqA, qqB, qqC]
 refine re1 6 (fun K hK => ?_)
 go_simp
 go_wp2_with (go_at_call 35; (with_reducible refine (Reg.is_r y.s.r x F.out.1 F.out.2 _).mono ?_); rintro e w1 ⟨rfl, hb⟩)
 have s' := S0.out.below hb; have m' : PM P R M tb v u0 v w1 := PM.of hb; clear hb; replace HO := m'.two HO NO; clear NO; obtain ⟨HO, NO⟩ := HO
 refine hK.out _ _ ⟨HO.out.2.1, trivial⟩ (fun hNew => ?_); clear hK K hHeld; have hHeld := hNew; clear hNew
 have M1 := M0.tr m'; have S1 := Lib.hid s'; clear s' m'; refine tz 7 ?_
 refine wpAnyH_done (by kernel_rfl) ?_ _
 obtain ⟨hc, hf⟩ := S1.out.cm; have ho := HO.out.2.1; clear hHeld; have Q0 := Lib.hid (S1.out.stIme false)
 (go_wp2; go_ret)
 refine ⟨rfl, v, ?_, (M1.out.trans Q0.out.2)⟩
 have q := Q0.out.1
 exact q.mo
theorem d_6 (h0 : Sys noD memC w P R M tb v y n) (hn : n < 900000) (x yy s nn nl at_ : Int) (n0 : 0 ≤ nn) (n1 : nn < 65536) (hnl : nn % 256 = nl) : Calls Tryz.prog 26 #[.pointer (some ⟨P, 0, none⟩), .pointer (some ⟨R, 0, none⟩), .agg #[.int .i64 6, .int .i64 x, .int .i64 yy, .int .i64 s, .int .u16 nn], .int .u16 at_] w (PE noD memC P R M tb v w (.bool true) (setSoon true y) (n + 4)) := by
 have f0 := h0.ok.2.1.1; have f1 := h0.ok.2.1.2
 have b2 : 0 ≤ nl ∧ nl < 256 := by omega
 have NB := Lib.hid b2
 have e2 : nn.tmod 256 = nl := by rw [Int.tmod_eq_emod_of_nonneg n0]; exact hnl
 have e4 : IntKind.u16.wrap nl = nl := IntWalk.u16_in nl (by omega); have e6 : nl % 256 = nl := Int.emod_eq_of_lt b2.1 b2.2; have F := Lib.hid (And.intro f0 f1); have HNL := Lib.hid hnl; clear b2 hnl
 have hnot := nt
 obtain ⟨S0, M0, HO, NO⟩ := h0.beg #[.int .i64 6, .int .i64 x, .int .i64 yy, .int .i64 s, .int .u16 nn] 47; obtain ⟨hc, hf⟩ := S0.out.cm; clear h0; go_enter Tryz.func26, Tryz.ntmps26; go_upto_region 1 with (fail); generalize w.alloc (.cells #[.int .i64 6, .int .i64 x, .int .i64 yy, .int .i64 s, .int .u16 nn] 47) = w0 at S0 M0 HO hc hf ⊢; generalize w.heap.size = ob at HO NO ⊢; have ho := HO.out.2.1; go_wp2_with fail
 with_reducible refine (Alu.z_r y.s.r.f F.out.1 F.out.2 _).mono ?_
 rintro e w_ ⟨rfl, rfl⟩; go_wp2_with fail
 with_reducible refine (Alu.c_r y.s.r.f F.out.1 F.out.2 _).mono ?_
 rintro e w_ ⟨rfl, rfl⟩; go_upto_region 4 with (fail); clear e2 e4 e6; replace S0 := Lib.hid S0.out.drew; replace M0 := Lib.hid (M0.out.trans (PM.drew P R M tb v w0)); replace HO := Lib.hid HO.out.drew; clear ho hc hf
 refine rh HO (fun hHeld => ?_)
 generalize World.drew w0 = u0 at hHeld S0 M0 HO ⊢; refine tz 0 ?_; refine tz 1 ?_; refine tz 2 ?_; refine tz 4 ?_; refine tz 5 ?_
 refine re1 3 (fun K hK => ?_)
 obtain ⟨hc, hf⟩ := S0.out.cm; go_simp; clear hc hf
 refine hK.out _ _ hHeld (fun hNew => ?_); clear hK K hHeld; have hHeld := hNew; clear hNew
 try simp only [Act.put, qqA, qqB, qqC]
 refine re1 6 (fun K hK => ?_)
 go_simp
 go_wp2_with (go_at_call 35; (with_reducible refine (Reg.is_r y.s.r x F.out.1 F.out.2 _).mono ?_); rintro e w1 ⟨rfl, hb⟩)
 have s' := S0.out.below hb; have m' : PM P R M tb v u0 v w1 := PM.of hb; clear hb; replace HO := m'.two HO NO; clear NO; obtain ⟨HO, NO⟩ := HO
 refine hK.out _ _ ⟨HO.out.2.1, trivial⟩ (fun hNew => ?_); clear hK K hHeld; have hHeld := hNew; clear hNew
 have M1 := M0.tr m'; have S1 := Lib.hid s'; clear s' m'; refine tz 7 ?_
 refine wpAnyH_done (by kernel_rfl) ?_ _
 obtain ⟨hc, hf⟩ := S1.out.cm; have ho := HO.out.2.1; clear hHeld; have Q0 := Lib.hid (S1.out.stSoon true)
 (go_wp2; go_ret)
 refine ⟨rfl, v, ?_, (M1.out.trans Q0.out.2)⟩
 have q := Q0.out.1
 exact q.mo
theorem d_7 (h0 : Sys noD memC w P R M tb v y n) (hn : n < 900000) (x yy s nn nl at_ : Int) (n0 : 0 ≤ nn) (n1 : nn < 65536) (hnl : nn % 256 = nl) : Calls Tryz.prog 26 #[.pointer (some ⟨P, 0, none⟩), .pointer (some ⟨R, 0, none⟩), .agg #[.int .i64 7, .int .i64 x, .int .i64 yy, .int .i64 s, .int .u16 nn], .int .u16 at_] w (PE noD memC P R M tb v w (.bool true) (putS x (getY yy y) (getS yy y)) (n + 4)) := by
 have f0 := h0.ok.2.1.1; have f1 := h0.ok.2.1.2
 have b2 : 0 ≤ nl ∧ nl < 256 := by omega
 have NB := Lib.hid b2
 have e2 : nn.tmod 256 = nl := by rw [Int.tmod_eq_emod_of_nonneg n0]; exact hnl
 have e4 : IntKind.u16.wrap nl = nl := IntWalk.u16_in nl (by omega); have e6 : nl % 256 = nl := Int.emod_eq_of_lt b2.1 b2.2; have F := Lib.hid (And.intro f0 f1); have HNL := Lib.hid hnl; clear b2 hnl
 have hnot := nt
 obtain ⟨S0, M0, HO, NO⟩ := h0.beg #[.int .i64 7, .int .i64 x, .int .i64 yy, .int .i64 s, .int .u16 nn] 47; obtain ⟨hc, hf⟩ := S0.out.cm; clear h0; go_enter Tryz.func26, Tryz.ntmps26; go_upto_region 1 with (fail); generalize w.alloc (.cells #[.int .i64 7, .int .i64 x, .int .i64 yy, .int .i64 s, .int .u16 nn] 47) = w0 at S0 M0 HO hc hf ⊢; generalize w.heap.size = ob at HO NO ⊢; have ho := HO.out.2.1; go_wp2_with fail
 with_reducible refine (Alu.z_r y.s.r.f F.out.1 F.out.2 _).mono ?_
 rintro e w_ ⟨rfl, rfl⟩; go_wp2_with fail
 with_reducible refine (Alu.c_r y.s.r.f F.out.1 F.out.2 _).mono ?_
 rintro e w_ ⟨rfl, rfl⟩; go_upto_region 4 with (fail); clear e2 e4 e6; replace S0 := Lib.hid S0.out.drew; replace M0 := Lib.hid (M0.out.trans (PM.drew P R M tb v w0)); replace HO := Lib.hid HO.out.drew; clear ho hc hf
 refine rh HO (fun hHeld => ?_)
 generalize World.drew w0 = u0 at hHeld S0 M0 HO ⊢; refine tz 0 ?_; refine tz 1 ?_; refine tz 2 ?_; refine tz 4 ?_; refine tz 5 ?_
 refine re1 3 (fun K hK => ?_)
 obtain ⟨hc, hf⟩ := S0.out.cm; go_simp; clear hc hf
 refine hK.out _ _ hHeld (fun hNew => ?_); clear hK K hHeld; have hHeld := hNew; clear hNew
 try simp only [Act.put, qqA, qqB, qqC]
 refine re1 6 (fun K hK => ?_)
 go_simp
 go_wp2_with (go_at_call 35; (with_reducible refine (Reg.is_r y.s.r x F.out.1 F.out.2 _).mono ?_); rintro e w1 ⟨rfl, hb⟩)
 have s' := S0.out.below hb; have m' : PM P R M tb v u0 v w1 := PM.of hb; clear hb; replace HO := m'.two HO NO; clear NO; obtain ⟨HO, NO⟩ := HO
 refine hK.out _ _ ⟨HO.out.2.1, trivial⟩ (fun hNew => ?_); clear hK K hHeld; have hHeld := hNew; clear hNew
 have M1 := M0.tr m'; have S1 := Lib.hid s'; clear s' m'; refine tz 7 ?_
 refine wpAnyH_done (by kernel_rfl) ?_ _
 obtain ⟨hc, hf⟩ := S1.out.cm; have ho := HO.out.2.1; clear hHeld; have gb := S1.out.getb yy; go_upto_region 17 with (fail); replace S1 := Lib.hid S1.out.drew; replace M1 := Lib.hid (M1.out.trans (PM.drew P R M tb v w1)); replace HO := Lib.hid HO.out.drew; clear ho hc hf
 refine rh HO (fun hHeld => ?_)
 generalize World.drew w1 = u1 at hHeld S1 M1 HO ⊢; refine tz 0 ?_; refine tz 1 ?_; refine tz 2 ?_; refine tz 3 ?_; refine tz 4 ?_; refine tz 5 ?_; refine tz 6 ?_; refine tz 7 ?_
 refine re1 8 (fun K hK => ?_)
 go_simp
 go_wp2_with (go_at_call 37; (with_reducible refine (mget_p S1.out (by omega) yy).mono ?_); rintro e w2 ⟨rfl, v2, s', m'⟩)
 replace HO := m'.two HO NO; clear NO; obtain ⟨HO, NO⟩ := HO
 refine hK.out _ _ ⟨HO.out.2.1, trivial⟩ (fun hNew => ?_); clear hK K hHeld; have hHeld := hNew; clear hNew
 have M2 := M1.tr m'; obtain ⟨y2, hy⟩ : ∃ q_, q_ = getS yy y := ⟨_, rfl⟩; rw [← hy] at s'; have Y2 := Lib.hid hy; clear hy; have S2 := Lib.hid s'; clear s' m'
 refine re1 9 (fun K hK => ?_)
 go_simp
 go_wp2_with (go_at_call 36; (with_reducible refine (mset_p S2.out (by omega) x (getY yy y) gb.1 gb.2).mono ?_); rintro e w3 ⟨rfl, v3, s', m'⟩)
 replace HO := m'.two HO NO; clear NO; obtain ⟨HO, NO⟩ := HO
 refine hK.out _ _ ⟨HO.out.2.1, trivial⟩ (fun hNew => ?_); clear hK K hHeld; have hHeld := hNew; clear hNew
 have M3 := M2.tr m'; obtain ⟨y3, hy⟩ : ∃ q_, q_ = putS x (getY yy y) y2 := ⟨_, rfl⟩; rw [← hy] at s'; have Y3 := Lib.hid hy; clear hy; have S3 := Lib.hid s'; clear s' m'
 refine wpAnyH_done (by kernel_rfl) ?_ _
 obtain ⟨hc, hf⟩ := S3.out.cm; have ho := HO.out.2.1; clear hHeld; go_wp2; go_ret
 refine ⟨rfl, v3, ?_, M3.out⟩
 have q := S3.out; have e := Y3.out.symm; subst e; have e := Y2.out.symm; subst e
 exact q.mo
theorem d_8 (h0 : Sys noD memC w P R M tb v y n) (hn : n < 900000) (x yy s nn nl at_ : Int) (n0 : 0 ≤ nn) (n1 : nn < 65536) (hnl : nn % 256 = nl) : Calls Tryz.prog 26 #[.pointer (some ⟨P, 0, none⟩), .pointer (some ⟨R, 0, none⟩), .agg #[.int .i64 8, .int .i64 x, .int .i64 yy, .int .i64 s, .int .u16 nn], .int .u16 at_] w (PE noD memC P R M tb v w (.bool true) (putS x nl y) (n + 4)) := by
 have f0 := h0.ok.2.1.1; have f1 := h0.ok.2.1.2
 have b2 : 0 ≤ nl ∧ nl < 256 := by omega
 have NB := Lib.hid b2
 have e2 : nn.tmod 256 = nl := by rw [Int.tmod_eq_emod_of_nonneg n0]; exact hnl
 have e4 : IntKind.u16.wrap nl = nl := IntWalk.u16_in nl (by omega); have e6 : nl % 256 = nl := Int.emod_eq_of_lt b2.1 b2.2; have F := Lib.hid (And.intro f0 f1); have HNL := Lib.hid hnl; clear b2 hnl
 have hnot := nt
 obtain ⟨S0, M0, HO, NO⟩ := h0.beg #[.int .i64 8, .int .i64 x, .int .i64 yy, .int .i64 s, .int .u16 nn] 47; obtain ⟨hc, hf⟩ := S0.out.cm; clear h0; go_enter Tryz.func26, Tryz.ntmps26; go_upto_region 1 with (fail); generalize w.alloc (.cells #[.int .i64 8, .int .i64 x, .int .i64 yy, .int .i64 s, .int .u16 nn] 47) = w0 at S0 M0 HO hc hf ⊢; generalize w.heap.size = ob at HO NO ⊢; have ho := HO.out.2.1; go_wp2_with fail
 with_reducible refine (Alu.z_r y.s.r.f F.out.1 F.out.2 _).mono ?_
 rintro e w_ ⟨rfl, rfl⟩; go_wp2_with fail
 with_reducible refine (Alu.c_r y.s.r.f F.out.1 F.out.2 _).mono ?_
 rintro e w_ ⟨rfl, rfl⟩; go_upto_region 4 with (fail); clear e2 e4 e6; replace S0 := Lib.hid S0.out.drew; replace M0 := Lib.hid (M0.out.trans (PM.drew P R M tb v w0)); replace HO := Lib.hid HO.out.drew; clear ho hc hf
 refine rh HO (fun hHeld => ?_)
 generalize World.drew w0 = u0 at hHeld S0 M0 HO ⊢; refine tz 0 ?_; refine tz 1 ?_; refine tz 2 ?_; refine tz 4 ?_; refine tz 5 ?_
 refine re1 3 (fun K hK => ?_)
 obtain ⟨hc, hf⟩ := S0.out.cm; go_simp; clear hc hf
 refine hK.out _ _ hHeld (fun hNew => ?_); clear hK K hHeld; have hHeld := hNew; clear hNew
 try simp only [Act.put, qqA, qqB, qqC]
 refine re1 6 (fun K hK => ?_)
 go_simp
 go_wp2_with (go_at_call 35; (with_reducible refine (Reg.is_r y.s.r x F.out.1 F.out.2 _).mono ?_); rintro e w1 ⟨rfl, hb⟩)
 have s' := S0.out.below hb; have m' : PM P R M tb v u0 v w1 := PM.of hb; clear hb; replace HO := m'.two HO NO; clear NO; obtain ⟨HO, NO⟩ := HO
 refine hK.out _ _ ⟨HO.out.2.1, trivial⟩ (fun hNew => ?_); clear hK K hHeld; have hHeld := hNew; clear hNew
 have M1 := M0.tr m'; have S1 := Lib.hid s'; clear s' m'; refine tz 7 ?_
 refine wpAnyH_done (by kernel_rfl) ?_ _
 obtain ⟨hc, hf⟩ := S1.out.cm; have ho := HO.out.2.1; clear hHeld; go_wp2_with fail
 with_reducible refine (mset_p S1.out (by omega) x nl NB.out.1 NB.out.2).mono ?_
 rintro e w2 ⟨rfl, v2, s', m'⟩; replace HO := m'.two HO NO; clear ho NO; obtain ⟨HO, NO⟩ := HO; have ho := HO.out.2.1; have M2 := M1.tr m'; obtain ⟨y2, hy⟩ : ∃ q_, q_ = putS x nl y := ⟨_, rfl⟩; rw [← hy] at s'; have Y2 := Lib.hid hy; clear hy; clear hc hf; obtain ⟨hc, hf⟩ := s'.cm; have S2 := Lib.hid s'; clear s' m'; go_wp2; go_ret
 refine ⟨rfl, v2, ?_, M2.out⟩
 have q := S2.out; have e := Y2.out.symm; subst e
 exact q.mo
theorem d_9 (h0 : Sys noD memC w P R M tb v y n) (hn : n < 900000) (x yy s nn nl at_ : Int) (n0 : 0 ≤ nn) (n1 : nn < 65536) (hnl : nn % 256 = nl) : Calls Tryz.prog 26 #[.pointer (some ⟨P, 0, none⟩), .pointer (some ⟨R, 0, none⟩), .agg #[.int .i64 9, .int .i64 x, .int .i64 yy, .int .i64 s, .int .u16 nn], .int .u16 at_] w (PE noD memC P R M tb v w (.bool true) (pairS x nn y) (n + 4)) := by
 have f0 := h0.ok.2.1.1; have f1 := h0.ok.2.1.2
 have b2 : 0 ≤ nl ∧ nl < 256 := by omega
 have NB := Lib.hid b2
 have e2 : nn.tmod 256 = nl := by rw [Int.tmod_eq_emod_of_nonneg n0]; exact hnl
 have e4 : IntKind.u16.wrap nl = nl := IntWalk.u16_in nl (by omega); have e6 : nl % 256 = nl := Int.emod_eq_of_lt b2.1 b2.2; have F := Lib.hid (And.intro f0 f1); have HNL := Lib.hid hnl; clear b2 hnl
 have hnot := nt
 obtain ⟨S0, M0, HO, NO⟩ := h0.beg #[.int .i64 9, .int .i64 x, .int .i64 yy, .int .i64 s, .int .u16 nn] 47; obtain ⟨hc, hf⟩ := S0.out.cm; clear h0; go_enter Tryz.func26, Tryz.ntmps26; go_upto_region 1 with (fail); generalize w.alloc (.cells #[.int .i64 9, .int .i64 x, .int .i64 yy, .int .i64 s, .int .u16 nn] 47) = w0 at S0 M0 HO hc hf ⊢; generalize w.heap.size = ob at HO NO ⊢; have ho := HO.out.2.1; go_wp2_with fail
 with_reducible refine (Alu.z_r y.s.r.f F.out.1 F.out.2 _).mono ?_
 rintro e w_ ⟨rfl, rfl⟩; go_wp2_with fail
 with_reducible refine (Alu.c_r y.s.r.f F.out.1 F.out.2 _).mono ?_
 rintro e w_ ⟨rfl, rfl⟩; go_upto_region 4 with (fail); clear e2 e4 e6; replace S0 := Lib.hid S0.out.drew; replace M0 := Lib.hid (M0.out.trans (PM.drew P R M tb v w0)); replace HO := Lib.hid HO.out.drew; clear ho hc hf
 refine rh HO (fun hHeld => ?_)
 generalize World.drew w0 = u0 at hHeld S0 M0 HO ⊢; refine tz 0 ?_; refine tz 1 ?_; refine tz 2 ?_; refine tz 4 ?_; refine tz 5 ?_
 refine re1 3 (fun K hK => ?_)
 obtain ⟨hc, hf⟩ := S0.out.cm; go_simp; clear hc hf
 refine hK.out _ _ hHeld (fun hNew => ?_); clear hK K hHeld; have hHeld := hNew; clear hNew
 try simp only [Act.put, qqA, qqB, qqC]
 refine re1 6 (fun K hK => ?_)
 go_simp
 go_wp2_with (go_at_call 35; (with_reducible refine (Reg.is_r y.s.r x F.out.1 F.out.2 _).mono ?_); rintro e w1 ⟨rfl, hb⟩)
 have s' := S0.out.below hb; have m' : PM P R M tb v u0 v w1 := PM.of hb; clear hb; replace HO := m'.two HO NO; clear NO; obtain ⟨HO, NO⟩ := HO
 refine hK.out _ _ ⟨HO.out.2.1, trivial⟩ (fun hNew => ?_); clear hK K hHeld; have hHeld := hNew; clear hNew
 have M1 := M0.tr m'; have S1 := Lib.hid s'; clear s' m'; refine tz 7 ?_
 refine wpAnyH_done (by kernel_rfl) ?_ _
 obtain ⟨hc, hf⟩ := S1.out.cm; have ho := HO.out.2.1; clear hHeld; go_upto_region 21 with (fail); replace S1 := Lib.hid S1.out.drew; replace M1 := Lib.hid (M1.out.trans (PM.drew P R M tb v w1)); replace HO := Lib.hid HO.out.drew; clear ho hc hf
 refine rh HO (fun hHeld => ?_)
 generalize World.drew w1 = u1 at hHeld S1 M1 HO ⊢; refine tz 0 ?_; refine tz 1 ?_; refine tz 2 ?_; refine tz 3 ?_; refine tz 5 ?_; refine tz 6 ?_; refine tz 7 ?_; refine tz 8 ?_
 refine re1 4 (fun K hK => ?_)
 obtain ⟨hc, hf⟩ := S1.out.cm; go_simp; clear hc hf
 refine hK.out _ _ hHeld (fun hNew => ?_); clear hK K hHeld; have hHeld := hNew; clear hNew
 try simp only [Act.put, qqA, qqB, qqC]
 refine re1 9 (fun K hK => ?_)
 go_simp
 go_wp2_with (go_at_call 38; (with_reducible refine (setPair_r y.s.r x nn n0 n1 _).mono ?_); rintro e w2 ⟨rfl, hb⟩)
 have s' := S1.out.below hb; have m' : PM P R M tb v u1 v w2 := PM.of hb; clear hb; replace HO := m'.two HO NO; clear NO; obtain ⟨HO, NO⟩ := HO
 refine hK.out _ _ ⟨HO.out.2.1, trivial⟩ (fun hNew => ?_); clear hK K hHeld; have hHeld := hNew; clear hNew
 have M2 := M1.tr m'; have S2 := Lib.hid s'; clear s' m'; refine tz 10 ?_; refine tz 11 ?_; refine tz 12 ?_; refine tz 13 ?_; refine tz 14 ?_
 refine re1 15 (fun K hK => ?_)
 obtain ⟨hc, hf⟩ := S2.out.cm; go_simp; clear hc hf; have q := S2.out.stR (setP y.s.r x nn) (setP_ok S2.out.ok x nn n0 n1); have s' := q.1; have m' := q.2; clear q; replace HO := m'.two HO NO; clear NO; obtain ⟨HO, NO⟩ := HO
 refine hK.out _ _ ⟨HO.out.2.1, trivial⟩ (fun hNew => ?_); clear hK K hHeld; have hHeld := hNew; clear hNew
 generalize (World.setCell (World.setCell (World.setCell (World.setCell (World.setCell (World.setCell (World.setCell (World.setCell (World.setCell (World.setCell w2 ⟨P, 0, none⟩ (.int .u8 (setP y.s.r x nn).a)) ⟨P, 1, none⟩ (.int .u8 (setP y.s.r x nn).f)) ⟨P, 2, none⟩ (.int .u8 (setP y.s.r x nn).b)) ⟨P, 3, none⟩ (.int .u8 (setP y.s.r x nn).c)) ⟨P, 4, none⟩ (.int .u8 (setP y.s.r x nn).d)) ⟨P, 5, none⟩ (.int .u8 (setP y.s.r x nn).e)) ⟨P, 6, none⟩ (.int .u8 (setP y.s.r x nn).h)) ⟨P, 7, none⟩ (.int .u8 (setP y.s.r x nn).l)) ⟨P, 8, none⟩ (.int .u16 (setP y.s.r x nn).sp)) ⟨P, 9, none⟩ (.int .u16 (setP y.s.r x nn).pc)) = w3 at hHeld s' m' HO ⊢; have M3 := M2.tr m'; obtain ⟨y3, hy⟩ : ∃ q_, q_ = setRR (setP y.s.r x nn) y := ⟨_, rfl⟩; rw [← hy] at s'; have Y3 := Lib.hid hy; clear hy; have S3 := Lib.hid s'; clear s' m'
 refine wpAnyH_done (by kernel_rfl) ?_ _
 obtain ⟨hc, hf⟩ := S3.out.cm; have ho := HO.out.2.1; clear hHeld; go_wp2; go_ret
 refine ⟨rfl, v, ?_, M3.out⟩
 have q := S3.out; have e := Y3.out.symm; subst e
 exact q.mo
theorem d_10 (h0 : Sys noD memC w P R M tb v y n) (hn : n < 900000) (x yy s nn nl at_ : Int) (n0 : 0 ≤ nn) (n1 : nn < 65536) (hnl : nn % 256 = nl) (x0 : 0 ≤ x) (x1 : x < 8) : Calls Tryz.prog 26 #[.pointer (some ⟨P, 0, none⟩), .pointer (some ⟨R, 0, none⟩), .agg #[.int .i64 10, .int .i64 x, .int .i64 yy, .int .i64 s, .int .u16 nn], .int .u16 at_] w (PE noD memC P R M tb v w (.bool true) (sumS x (getY yy y) (getS yy y)) (n + 4)) := by
 have f0 := h0.ok.2.1.1; have f1 := h0.ok.2.1.2
 have b2 : 0 ≤ nl ∧ nl < 256 := by omega
 have NB := Lib.hid b2
 have e2 : nn.tmod 256 = nl := by rw [Int.tmod_eq_emod_of_nonneg n0]; exact hnl
 have e4 : IntKind.u16.wrap nl = nl := IntWalk.u16_in nl (by omega); have e6 : nl % 256 = nl := Int.emod_eq_of_lt b2.1 b2.2; have F := Lib.hid (And.intro f0 f1); have HNL := Lib.hid hnl; clear b2 hnl
 have hnot := nt
 obtain ⟨S0, M0, HO, NO⟩ := h0.beg #[.int .i64 10, .int .i64 x, .int .i64 yy, .int .i64 s, .int .u16 nn] 47; obtain ⟨hc, hf⟩ := S0.out.cm; clear h0; go_enter Tryz.func26, Tryz.ntmps26; go_upto_region 1 with (fail); generalize w.alloc (.cells #[.int .i64 10, .int .i64 x, .int .i64 yy, .int .i64 s, .int .u16 nn] 47) = w0 at S0 M0 HO hc hf ⊢; generalize w.heap.size = ob at HO NO ⊢; have ho := HO.out.2.1; go_wp2_with fail
 with_reducible refine (Alu.z_r y.s.r.f F.out.1 F.out.2 _).mono ?_
 rintro e w_ ⟨rfl, rfl⟩; go_wp2_with fail
 with_reducible refine (Alu.c_r y.s.r.f F.out.1 F.out.2 _).mono ?_
 rintro e w_ ⟨rfl, rfl⟩; go_upto_region 4 with (fail); clear e2 e4 e6; replace S0 := Lib.hid S0.out.drew; replace M0 := Lib.hid (M0.out.trans (PM.drew P R M tb v w0)); replace HO := Lib.hid HO.out.drew; clear ho hc hf
 refine rh HO (fun hHeld => ?_)
 generalize World.drew w0 = u0 at hHeld S0 M0 HO ⊢; refine tz 0 ?_; refine tz 1 ?_; refine tz 2 ?_; refine tz 4 ?_; refine tz 5 ?_
 refine re1 3 (fun K hK => ?_)
 obtain ⟨hc, hf⟩ := S0.out.cm; go_simp; clear hc hf
 refine hK.out _ _ hHeld (fun hNew => ?_); clear hK K hHeld; have hHeld := hNew; clear hNew
 try simp only [Act.put, qqA, qqB, qqC]
 refine re1 6 (fun K hK => ?_)
 go_simp
 go_wp2_with (go_at_call 35; (with_reducible refine (Reg.is_r y.s.r x F.out.1 F.out.2 _).mono ?_); rintro e w1 ⟨rfl, hb⟩)
 have s' := S0.out.below hb; have m' : PM P R M tb v u0 v w1 := PM.of hb; clear hb; replace HO := m'.two HO NO; clear NO; obtain ⟨HO, NO⟩ := HO
 refine hK.out _ _ ⟨HO.out.2.1, trivial⟩ (fun hNew => ?_); clear hK K hHeld; have hHeld := hNew; clear hNew
 have M1 := M0.tr m'; have S1 := Lib.hid s'; clear s' m'; refine tz 7 ?_
 refine wpAnyH_done (by kernel_rfl) ?_ _
 obtain ⟨hc, hf⟩ := S1.out.cm; have ho := HO.out.2.1; clear hHeld; have gb := S1.out.getb yy; go_upto_region 23 with (fail); replace S1 := Lib.hid S1.out.drew; replace M1 := Lib.hid (M1.out.trans (PM.drew P R M tb v w1)); replace HO := Lib.hid HO.out.drew; clear ho hc hf
 refine rh HO (fun hHeld => ?_)
 generalize World.drew w1 = u1 at hHeld S1 M1 HO ⊢; refine tz 0 ?_; refine tz 1 ?_; refine tz 2 ?_; refine tz 3 ?_; refine tz 4 ?_; refine tz 5 ?_; refine tz 6 ?_
 refine re1 7 (fun K hK => ?_)
 go_simp
 go_wp2_with (go_at_call 37; (with_reducible refine (mget_p S1.out (by omega) yy).mono ?_); rintro e w2 ⟨rfl, v2, s', m'⟩)
 replace HO := m'.two HO NO; clear NO; obtain ⟨HO, NO⟩ := HO
 refine hK.out _ _ ⟨HO.out.2.1, trivial⟩ (fun hNew => ?_); clear hK K hHeld; have hHeld := hNew; clear hNew
 have M2 := M1.tr m'; obtain ⟨y2, hy⟩ : ∃ q_, q_ = getS yy y := ⟨_, rfl⟩; rw [← hy] at s'; have Y2 := Lib.hid hy; clear hy; have S2 := Lib.hid s'; clear s' m'
 refine re1 8 (fun K hK => ?_)
 go_simp
 go_wp2_with (go_at_call 39; (with_reducible refine (msum_p S2.out (by omega) x (getY yy y) x0 x1 gb.1 gb.2).mono ?_); rintro e w3 ⟨rfl, v3, s', m'⟩)
 replace HO := m'.two HO NO; clear NO; obtain ⟨HO, NO⟩ := HO
 refine hK.out _ _ ⟨HO.out.2.1, trivial⟩ (fun hNew => ?_); clear hK K hHeld; have hHeld := hNew; clear hNew
 have M3 := M2.tr m'; obtain ⟨y3, hy⟩ : ∃ q_, q_ = sumS x (getY yy y) y2 := ⟨_, rfl⟩; rw [← hy] at s'; have Y3 := Lib.hid hy; clear hy; have S3 := Lib.hid s'; clear s' m'
 refine wpAnyH_done (by kernel_rfl) ?_ _
 obtain ⟨hc, hf⟩ := S3.out.cm; have ho := HO.out.2.1; clear hHeld; go_wp2; go_ret
 refine ⟨rfl, v3, ?_, M3.out⟩
 have q := S3.out; have e := Y3.out.symm; subst e; have e := Y2.out.symm; subst e
 exact q.mo
theorem d_11 (h0 : Sys noD memC w P R M tb v y n) (hn : n < 900000) (x yy s nn nl at_ : Int) (n0 : 0 ≤ nn) (n1 : nn < 65536) (hnl : nn % 256 = nl) (x0 : 0 ≤ x) (x1 : x < 8) : Calls Tryz.prog 26 #[.pointer (some ⟨P, 0, none⟩), .pointer (some ⟨R, 0, none⟩), .agg #[.int .i64 11, .int .i64 x, .int .i64 yy, .int .i64 s, .int .u16 nn], .int .u16 at_] w (PE noD memC P R M tb v w (.bool true) (sumS x nl y) (n + 4)) := by
 have f0 := h0.ok.2.1.1; have f1 := h0.ok.2.1.2
 have b2 : 0 ≤ nl ∧ nl < 256 := by omega
 have NB := Lib.hid b2
 have e2 : nn.tmod 256 = nl := by rw [Int.tmod_eq_emod_of_nonneg n0]; exact hnl
 have e4 : IntKind.u16.wrap nl = nl := IntWalk.u16_in nl (by omega); have e6 : nl % 256 = nl := Int.emod_eq_of_lt b2.1 b2.2; have F := Lib.hid (And.intro f0 f1); have HNL := Lib.hid hnl; clear b2 hnl
 have hnot := nt
 obtain ⟨S0, M0, HO, NO⟩ := h0.beg #[.int .i64 11, .int .i64 x, .int .i64 yy, .int .i64 s, .int .u16 nn] 47; obtain ⟨hc, hf⟩ := S0.out.cm; clear h0; go_enter Tryz.func26, Tryz.ntmps26; go_upto_region 1 with (fail); generalize w.alloc (.cells #[.int .i64 11, .int .i64 x, .int .i64 yy, .int .i64 s, .int .u16 nn] 47) = w0 at S0 M0 HO hc hf ⊢; generalize w.heap.size = ob at HO NO ⊢; have ho := HO.out.2.1; go_wp2_with fail
 with_reducible refine (Alu.z_r y.s.r.f F.out.1 F.out.2 _).mono ?_
 rintro e w_ ⟨rfl, rfl⟩; go_wp2_with fail
 with_reducible refine (Alu.c_r y.s.r.f F.out.1 F.out.2 _).mono ?_
 rintro e w_ ⟨rfl, rfl⟩; go_upto_region 4 with (fail); clear e2 e4 e6; replace S0 := Lib.hid S0.out.drew; replace M0 := Lib.hid (M0.out.trans (PM.drew P R M tb v w0)); replace HO := Lib.hid HO.out.drew; clear ho hc hf
 refine rh HO (fun hHeld => ?_)
 generalize World.drew w0 = u0 at hHeld S0 M0 HO ⊢; refine tz 0 ?_; refine tz 1 ?_; refine tz 2 ?_; refine tz 4 ?_; refine tz 5 ?_
 refine re1 3 (fun K hK => ?_)
 obtain ⟨hc, hf⟩ := S0.out.cm; go_simp; clear hc hf
 refine hK.out _ _ hHeld (fun hNew => ?_); clear hK K hHeld; have hHeld := hNew; clear hNew
 try simp only [Act.put, qqA, qqB, qqC]
 refine re1 6 (fun K hK => ?_)
 go_simp
 go_wp2_with (go_at_call 35; (with_reducible refine (Reg.is_r y.s.r x F.out.1 F.out.2 _).mono ?_); rintro e w1 ⟨rfl, hb⟩)
 have s' := S0.out.below hb; have m' : PM P R M tb v u0 v w1 := PM.of hb; clear hb; replace HO := m'.two HO NO; clear NO; obtain ⟨HO, NO⟩ := HO
 refine hK.out _ _ ⟨HO.out.2.1, trivial⟩ (fun hNew => ?_); clear hK K hHeld; have hHeld := hNew; clear hNew
 have M1 := M0.tr m'; have S1 := Lib.hid s'; clear s' m'; refine tz 7 ?_
 refine wpAnyH_done (by kernel_rfl) ?_ _
 obtain ⟨hc, hf⟩ := S1.out.cm; have ho := HO.out.2.1; clear hHeld; go_wp2_with fail
 with_reducible refine (msum_p S1.out (by omega) x nl x0 x1 NB.out.1 NB.out.2).mono ?_
 rintro e w2 ⟨rfl, v2, s', m'⟩; replace HO := m'.two HO NO; clear ho NO; obtain ⟨HO, NO⟩ := HO; have ho := HO.out.2.1; have M2 := M1.tr m'; obtain ⟨y2, hy⟩ : ∃ q_, q_ = sumS x nl y := ⟨_, rfl⟩; rw [← hy] at s'; have Y2 := Lib.hid hy; clear hy; clear hc hf; obtain ⟨hc, hf⟩ := s'.cm; have S2 := Lib.hid s'; clear s' m'; go_wp2; go_ret
 refine ⟨rfl, v2, ?_, M2.out⟩
 have q := S2.out; have e := Y2.out.symm; subst e
 exact q.mo
theorem d_12 (h0 : Sys noD memC w P R M tb v y n) (hn : n < 900000) (x yy s nn nl at_ : Int) (n0 : 0 ≤ nn) (n1 : nn < 65536) (hnl : nn % 256 = nl) : Calls Tryz.prog 26 #[.pointer (some ⟨P, 0, none⟩), .pointer (some ⟨R, 0, none⟩), .agg #[.int .i64 12, .int .i64 x, .int .i64 yy, .int .i64 s, .int .u16 nn], .int .u16 at_] w (PE noD memC P R M tb v w (.bool true) (setF (Alu.incF (getY x y) y.s.r.f) (putS x ((getY x y + 1) % 256) (getS x y))) (n + 4)) := by
 have f0 := h0.ok.2.1.1; have f1 := h0.ok.2.1.2
 have b2 : 0 ≤ nl ∧ nl < 256 := by omega
 have NB := Lib.hid b2
 have e2 : nn.tmod 256 = nl := by rw [Int.tmod_eq_emod_of_nonneg n0]; exact hnl
 have e4 : IntKind.u16.wrap nl = nl := IntWalk.u16_in nl (by omega); have e6 : nl % 256 = nl := Int.emod_eq_of_lt b2.1 b2.2; have F := Lib.hid (And.intro f0 f1); have HNL := Lib.hid hnl; clear b2 hnl
 have hnot := nt
 obtain ⟨S0, M0, HO, NO⟩ := h0.beg #[.int .i64 12, .int .i64 x, .int .i64 yy, .int .i64 s, .int .u16 nn] 47; obtain ⟨hc, hf⟩ := S0.out.cm; clear h0; go_enter Tryz.func26, Tryz.ntmps26; go_upto_region 1 with (fail); generalize w.alloc (.cells #[.int .i64 12, .int .i64 x, .int .i64 yy, .int .i64 s, .int .u16 nn] 47) = w0 at S0 M0 HO hc hf ⊢; generalize w.heap.size = ob at HO NO ⊢; have ho := HO.out.2.1; go_wp2_with fail
 with_reducible refine (Alu.z_r y.s.r.f F.out.1 F.out.2 _).mono ?_
 rintro e w_ ⟨rfl, rfl⟩; go_wp2_with fail
 with_reducible refine (Alu.c_r y.s.r.f F.out.1 F.out.2 _).mono ?_
 rintro e w_ ⟨rfl, rfl⟩; go_upto_region 4 with (fail); clear e2 e4 e6; replace S0 := Lib.hid S0.out.drew; replace M0 := Lib.hid (M0.out.trans (PM.drew P R M tb v w0)); replace HO := Lib.hid HO.out.drew; clear ho hc hf
 refine rh HO (fun hHeld => ?_)
 generalize World.drew w0 = u0 at hHeld S0 M0 HO ⊢; refine tz 0 ?_; refine tz 1 ?_; refine tz 2 ?_; refine tz 4 ?_; refine tz 5 ?_
 refine re1 3 (fun K hK => ?_)
 obtain ⟨hc, hf⟩ := S0.out.cm; go_simp; clear hc hf
 refine hK.out _ _ hHeld (fun hNew => ?_); clear hK K hHeld; have hHeld := hNew; clear hNew
 try simp only [Act.put, qqA, qqB, qqC]
 refine re1 6 (fun K hK => ?_)
 go_simp
 go_wp2_with (go_at_call 35; (with_reducible refine (Reg.is_r y.s.r x F.out.1 F.out.2 _).mono ?_); rintro e w1 ⟨rfl, hb⟩)
 have s' := S0.out.below hb; have m' : PM P R M tb v u0 v w1 := PM.of hb; clear hb; replace HO := m'.two HO NO; clear NO; obtain ⟨HO, NO⟩ := HO
 refine hK.out _ _ ⟨HO.out.2.1, trivial⟩ (fun hNew => ?_); clear hK K hHeld; have hHeld := hNew; clear hNew
 have M1 := M0.tr m'; have S1 := Lib.hid s'; clear s' m'; refine tz 7 ?_
 refine wpAnyH_done (by kernel_rfl) ?_ _
 obtain ⟨hc, hf⟩ := S1.out.cm; have ho := HO.out.2.1; clear hHeld; have gb := S1.out.getb x; go_wp2_with fail
 with_reducible refine (mget_p S1.out (by omega) x).mono ?_
 rintro e w2 ⟨rfl, v2, s', m'⟩; replace HO := m'.two HO NO; clear ho NO; obtain ⟨HO, NO⟩ := HO; have ho := HO.out.2.1; have M2 := M1.tr m'; obtain ⟨y2, hy⟩ : ∃ q_, q_ = getS x y := ⟨_, rfl⟩; rw [← hy] at s'; have Y2 := Lib.hid hy; clear hy; clear hc hf; obtain ⟨hc, hf⟩ := s'.cm; have S2 := Lib.hid s'; clear s' m'; go_wp2_with fail
 with_reducible refine (Alu.inc_r (getY x y) y.s.r.f gb.1 gb.2 F.out.1 F.out.2 _).mono ?_
 rintro e w3 ⟨rfl, hb⟩; have s' := S2.out.below hb; have m' : PM P R M tb v2 w2 v2 w3 := PM.of hb; clear hb; replace HO := m'.two HO NO; clear ho NO; obtain ⟨HO, NO⟩ := HO; have ho := HO.out.2.1; have M3 := M2.tr m'; clear hc hf; obtain ⟨hc, hf⟩ := s'.cm; have S3 := Lib.hid s'; clear s' m'; go_wp2_with fail
 with_reducible refine (mset_p S3.out (by omega) x ((getY x y + 1) % 256) (by omega) (by omega)).mono ?_
 rintro e w4 ⟨rfl, v4, s', m'⟩; replace HO := m'.two HO NO; clear ho NO; obtain ⟨HO, NO⟩ := HO; have ho := HO.out.2.1; have M4 := M3.tr m'; obtain ⟨y4, hy⟩ : ∃ q_, q_ = putS x ((getY x y + 1) % 256) y2 := ⟨_, rfl⟩; rw [← hy] at s'; have Y4 := Lib.hid hy; clear hy; clear hc hf; obtain ⟨hc, hf⟩ := s'.cm; have S4 := Lib.hid s'; clear s' m'; have Q0 := Lib.hid (S4.out.stF (Alu.incF (getY x y) y.s.r.f) (Alu.FL_b _ _ _ _).1 (Alu.FL_b _ _ _ _).2)
 (go_wp2; go_ret)
 refine ⟨rfl, v4, ?_, (M4.out.trans Q0.out.2)⟩
 have q := Q0.out.1; have e := Y4.out.symm; subst e; have e := Y2.out.symm; subst e
 exact q.mo
theorem d_13 (h0 : Sys noD memC w P R M tb v y n) (hn : n < 900000) (x yy s nn nl at_ : Int) (n0 : 0 ≤ nn) (n1 : nn < 65536) (hnl : nn % 256 = nl) : Calls Tryz.prog 26 #[.pointer (some ⟨P, 0, none⟩), .pointer (some ⟨R, 0, none⟩), .agg #[.int .i64 13, .int .i64 x, .int .i64 yy, .int .i64 s, .int .u16 nn], .int .u16 at_] w (PE noD memC P R M tb v w (.bool true) (setF (Alu.decF (getY x y) y.s.r.f) (putS x ((getY x y - 1) % 256) (getS x y))) (n + 4)) := by
 have f0 := h0.ok.2.1.1; have f1 := h0.ok.2.1.2
 have b2 : 0 ≤ nl ∧ nl < 256 := by omega
 have NB := Lib.hid b2
 have e2 : nn.tmod 256 = nl := by rw [Int.tmod_eq_emod_of_nonneg n0]; exact hnl
 have e4 : IntKind.u16.wrap nl = nl := IntWalk.u16_in nl (by omega); have e6 : nl % 256 = nl := Int.emod_eq_of_lt b2.1 b2.2; have F := Lib.hid (And.intro f0 f1); have HNL := Lib.hid hnl; clear b2 hnl
 have hnot := nt
 obtain ⟨S0, M0, HO, NO⟩ := h0.beg #[.int .i64 13, .int .i64 x, .int .i64 yy, .int .i64 s, .int .u16 nn] 47; obtain ⟨hc, hf⟩ := S0.out.cm; clear h0; go_enter Tryz.func26, Tryz.ntmps26; go_upto_region 1 with (fail); generalize w.alloc (.cells #[.int .i64 13, .int .i64 x, .int .i64 yy, .int .i64 s, .int .u16 nn] 47) = w0 at S0 M0 HO hc hf ⊢; generalize w.heap.size = ob at HO NO ⊢; have ho := HO.out.2.1; go_wp2_with fail
 with_reducible refine (Alu.z_r y.s.r.f F.out.1 F.out.2 _).mono ?_
 rintro e w_ ⟨rfl, rfl⟩; go_wp2_with fail
 with_reducible refine (Alu.c_r y.s.r.f F.out.1 F.out.2 _).mono ?_
 rintro e w_ ⟨rfl, rfl⟩; go_upto_region 4 with (fail); clear e2 e4 e6; replace S0 := Lib.hid S0.out.drew; replace M0 := Lib.hid (M0.out.trans (PM.drew P R M tb v w0)); replace HO := Lib.hid HO.out.drew; clear ho hc hf
 refine rh HO (fun hHeld => ?_)
 generalize World.drew w0 = u0 at hHeld S0 M0 HO ⊢; refine tz 0 ?_; refine tz 1 ?_; refine tz 2 ?_; refine tz 4 ?_; refine tz 5 ?_
 refine re1 3 (fun K hK => ?_)
 obtain ⟨hc, hf⟩ := S0.out.cm; go_simp; clear hc hf
 refine hK.out _ _ hHeld (fun hNew => ?_); clear hK K hHeld; have hHeld := hNew; clear hNew
 try simp only [Act.put, qqA, qqB, qqC]
 refine re1 6 (fun K hK => ?_)
 go_simp
 go_wp2_with (go_at_call 35; (with_reducible refine (Reg.is_r y.s.r x F.out.1 F.out.2 _).mono ?_); rintro e w1 ⟨rfl, hb⟩)
 have s' := S0.out.below hb; have m' : PM P R M tb v u0 v w1 := PM.of hb; clear hb; replace HO := m'.two HO NO; clear NO; obtain ⟨HO, NO⟩ := HO
 refine hK.out _ _ ⟨HO.out.2.1, trivial⟩ (fun hNew => ?_); clear hK K hHeld; have hHeld := hNew; clear hNew
 have M1 := M0.tr m'; have S1 := Lib.hid s'; clear s' m'; refine tz 7 ?_
 refine wpAnyH_done (by kernel_rfl) ?_ _
 obtain ⟨hc, hf⟩ := S1.out.cm; have ho := HO.out.2.1; clear hHeld; have gb := S1.out.getb x; go_wp2_with fail
 with_reducible refine (mget_p S1.out (by omega) x).mono ?_
 rintro e w2 ⟨rfl, v2, s', m'⟩; replace HO := m'.two HO NO; clear ho NO; obtain ⟨HO, NO⟩ := HO; have ho := HO.out.2.1; have M2 := M1.tr m'; obtain ⟨y2, hy⟩ : ∃ q_, q_ = getS x y := ⟨_, rfl⟩; rw [← hy] at s'; have Y2 := Lib.hid hy; clear hy; clear hc hf; obtain ⟨hc, hf⟩ := s'.cm; have S2 := Lib.hid s'; clear s' m'; go_wp2_with fail
 with_reducible refine (Alu.dec_r (getY x y) y.s.r.f gb.1 gb.2 F.out.1 F.out.2 _).mono ?_
 rintro e w3 ⟨rfl, hb⟩; have s' := S2.out.below hb; have m' : PM P R M tb v2 w2 v2 w3 := PM.of hb; clear hb; replace HO := m'.two HO NO; clear ho NO; obtain ⟨HO, NO⟩ := HO; have ho := HO.out.2.1; have M3 := M2.tr m'; clear hc hf; obtain ⟨hc, hf⟩ := s'.cm; have S3 := Lib.hid s'; clear s' m'; go_wp2_with fail
 with_reducible refine (mset_p S3.out (by omega) x ((getY x y - 1) % 256) (by omega) (by omega)).mono ?_
 rintro e w4 ⟨rfl, v4, s', m'⟩; replace HO := m'.two HO NO; clear ho NO; obtain ⟨HO, NO⟩ := HO; have ho := HO.out.2.1; have M4 := M3.tr m'; obtain ⟨y4, hy⟩ : ∃ q_, q_ = putS x ((getY x y - 1) % 256) y2 := ⟨_, rfl⟩; rw [← hy] at s'; have Y4 := Lib.hid hy; clear hy; clear hc hf; obtain ⟨hc, hf⟩ := s'.cm; have S4 := Lib.hid s'; clear s' m'; have Q0 := Lib.hid (S4.out.stF (Alu.decF (getY x y) y.s.r.f) (Alu.FL_b _ _ _ _).1 (Alu.FL_b _ _ _ _).2)
 (go_wp2; go_ret)
 refine ⟨rfl, v4, ?_, (M4.out.trans Q0.out.2)⟩
 have q := Q0.out.1; have e := Y4.out.symm; subst e; have e := Y2.out.symm; subst e
 exact q.mo
end
end Go.Proofs.YtngdogldgcgnjaaGreat
