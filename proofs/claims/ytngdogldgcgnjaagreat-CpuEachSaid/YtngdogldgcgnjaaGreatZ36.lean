/-
  What an order does on the document's own processor, kind by kind: for every world; the processor is there.
-/
import Derived.Test.YtngdogldgcgnjaaGreatZ33
import Derived.Deep.Cut
set_option maxRecDepth 100000
set_option maxHeartbeats 8000000
namespace Go.Proofs.YtngdogldgcgnjaaGreat
open Go.ChangeShapes Go.WideShapes Go.ChangeAt Go.RowKit
open Reg
set_option linter.unusedVariables false
section
variable {w : World} {P R M tb n : Nat} {v : Value} {y : Sy}
theorem d_23n (h0 : Sys noD memC w P R M tb v y n) (hn : n < 900000) (x yy s nn nl at_ : Int) (n0 : 0 ≤ nn) (n1 : nn < 65536) (hnl : nn % 256 = nl) (hi : isV y.s.r x = false) : Calls Tryz.prog 26 #[.pointer (some ⟨P, 0, none⟩), .pointer (some ⟨R, 0, none⟩), .agg #[.int .i64 23, .int .i64 x, .int .i64 yy, .int .i64 s, .int .u16 nn], .int .u16 at_] w (PE noD memC P R M tb v w (.bool false) (y) (n + 4)) := by
 have f0 := h0.ok.2.1.1; have f1 := h0.ok.2.1.2
 have b2 : 0 ≤ nl ∧ nl < 256 := by omega
 have NB := Lib.hid b2
 have e2 : nn.tmod 256 = nl := by rw [Int.tmod_eq_emod_of_nonneg n0]; exact hnl
 have e4 : IntKind.u16.wrap nl = nl := IntWalk.u16_in nl (by omega); have e6 : nl % 256 = nl := Int.emod_eq_of_lt b2.1 b2.2; have F := Lib.hid (And.intro f0 f1); have HNL := Lib.hid hnl; clear b2 hnl
 have hnot := nt
 obtain ⟨S0, M0, HO, NO⟩ := h0.beg #[.int .i64 23, .int .i64 x, .int .i64 yy, .int .i64 s, .int .u16 nn] 47; obtain ⟨hc, hf⟩ := S0.out.cm; clear h0; go_enter Tryz.func26, Tryz.ntmps26; go_upto_region 1 with (fail); generalize w.alloc (.cells #[.int .i64 23, .int .i64 x, .int .i64 yy, .int .i64 s, .int .u16 nn] 47) = w0 at S0 M0 HO hc hf ⊢; generalize w.heap.size = ob at HO NO ⊢; have ho := HO.out.2.1; go_wp2_with fail
 with_reducible refine (Alu.z_r y.s.r.f F.out.1 F.out.2 _).mono ?_
 rintro e w_ ⟨rfl, rfl⟩; go_wp2_with fail
 with_reducible refine (Alu.c_r y.s.r.f F.out.1 F.out.2 _).mono ?_
 rintro e w_ ⟨rfl, rfl⟩; go_upto_region 4 with (fail); clear e2 e4 e6; replace S0 := Lib.hid S0.out.drew; replace M0 := Lib.hid (M0.out.trans (PM.drew P R M tb v w0)); replace HO := Lib.hid HO.out.drew; clear ho hc hf
 refine rh HO (fun hHeld => ?_)
 generalize World.drew w0 = u0 at hHeld S0 M0 HO ⊢; refine tz 0 ?_; refine tz 1 ?_; refine tz 2 ?_; refine tz 4 ?_; refine tz 5 ?_
 refine re1 3 (fun K hK => ?_)
 obtain ⟨hc, hf⟩ := S0.out.cm; go_simp; clear hc hf
 refine hK.out _ _ hHeld (fun hNew => ?_); clear hK K hHeld; have hHeld := hNew; clear hNew
 try simp only [Act.put, qqA, qqB, qqC]
 refine re1 6 (fun K hK => ?_)
 go_simp
 go_wp2_with (go_at_call 35; (with_reducible refine (Reg.is_r y.s.r x F.out.1 F.out.2 _).mono ?_); rintro e w1 ⟨rfl, hb⟩)
 have s' := S0.out.below hb; have m' : PM P R M tb v u0 v w1 := PM.of hb; clear hb; replace HO := m'.two HO NO; clear NO; obtain ⟨HO, NO⟩ := HO
 refine hK.out _ _ ⟨HO.out.2.1, trivial⟩ (fun hNew => ?_); clear hK K hHeld; have hHeld := hNew; clear hNew
 have M1 := M0.tr m'; have S1 := Lib.hid s'; clear s' m'; refine tz 7 ?_
 refine wpAnyH_done (by kernel_rfl) ?_ _
 obtain ⟨hc, hf⟩ := S1.out.cm; have ho := HO.out.2.1; clear hHeld; go_wp2; go_ret
 refine ⟨rfl, v, ?_, M1.out⟩
 have q := S1.out
 exact q.mo
theorem d_23a (h0 : Sys noD memC w P R M tb v y n) (hn : n < 900000) (x yy s nn nl at_ : Int) (n0 : 0 ≤ nn) (n1 : nn < 65536) (hnl : nn % 256 = nl) (hi : isV y.s.r x = true) (hb : nl ≤ 127) : Calls Tryz.prog 26 #[.pointer (some ⟨P, 0, none⟩), .pointer (some ⟨R, 0, none⟩), .agg #[.int .i64 23, .int .i64 x, .int .i64 yy, .int .i64 s, .int .u16 nn], .int .u16 at_] w (PE noD memC P R M tb v w (.bool true) (setPC (jrV y.s.r.pc nn) (idle y)) (n + 4)) := by
 have f0 := h0.ok.2.1.1; have f1 := h0.ok.2.1.2
 have b2 : 0 ≤ nl ∧ nl < 256 := by omega
 have NB := Lib.hid b2
 have e2 : nn.tmod 256 = nl := by rw [Int.tmod_eq_emod_of_nonneg n0]; exact hnl
 have e4 : IntKind.u16.wrap nl = nl := IntWalk.u16_in nl (by omega); have e6 : nl % 256 = nl := Int.emod_eq_of_lt b2.1 b2.2; have F := Lib.hid (And.intro f0 f1); have HNL := Lib.hid hnl; clear b2 hnl
 have hnot := nt
 obtain ⟨S0, M0, HO, NO⟩ := h0.beg #[.int .i64 23, .int .i64 x, .int .i64 yy, .int .i64 s, .int .u16 nn] 47; obtain ⟨hc, hf⟩ := S0.out.cm; clear h0; go_enter Tryz.func26, Tryz.ntmps26; go_upto_region 1 with (fail); generalize w.alloc (.cells #[.int .i64 23, .int .i64 x, .int .i64 yy, .int .i64 s, .int .u16 nn] 47) = w0 at S0 M0 HO hc hf ⊢; generalize w.heap.size = ob at HO NO ⊢; have ho := HO.out.2.1; go_wp2_with fail
 with_reducible refine (Alu.z_r y.s.r.f F.out.1 F.out.2 _).mono ?_
 rintro e w_ ⟨rfl, rfl⟩; go_wp2_with fail
 with_reducible refine (Alu.c_r y.s.r.f F.out.1 F.out.2 _).mono ?_
 rintro e w_ ⟨rfl, rfl⟩; go_upto_region 4 with (fail); clear e2 e4 e6; replace S0 := Lib.hid S0.out.drew; replace M0 := Lib.hid (M0.out.trans (PM.drew P R M tb v w0)); replace HO := Lib.hid HO.out.drew; clear ho hc hf
 refine rh HO (fun hHeld => ?_)
 generalize World.drew w0 = u0 at hHeld S0 M0 HO ⊢; refine tz 0 ?_; refine tz 1 ?_; refine tz 2 ?_; refine tz 4 ?_; refine tz 5 ?_
 refine re1 3 (fun K hK => ?_)
 obtain ⟨hc, hf⟩ := S0.out.cm; go_simp; clear hc hf
 refine hK.out _ _ hHeld (fun hNew => ?_); clear hK K hHeld; have hHeld := hNew; clear hNew
 try simp only [Act.put, qqA, qqB, qqC]
 refine re1 6 (fun K hK => ?_)
 go_simp
 go_wp2_with (go_at_call 35; (with_reducible refine (Reg.is_r y.s.r x F.out.1 F.out.2 _).mono ?_); rintro e w1 ⟨rfl, hb⟩)
 have s' := S0.out.below hb; have m' : PM P R M tb v u0 v w1 := PM.of hb; clear hb; replace HO := m'.two HO NO; clear NO; obtain ⟨HO, NO⟩ := HO
 refine hK.out _ _ ⟨HO.out.2.1, trivial⟩ (fun hNew => ?_); clear hK K hHeld; have hHeld := hNew; clear hNew
 have M1 := M0.tr m'; have S1 := Lib.hid s'; clear s' m'; refine tz 7 ?_
 refine wpAnyH_done (by kernel_rfl) ?_ _
 obtain ⟨hc, hf⟩ := S1.out.cm; have ho := HO.out.2.1; clear hHeld; have pc0 := S1.out.pcb.1; have pc1 := S1.out.pcb.2; have nb0 := NB.out.1; have nb1 := NB.out.2; go_wp2_with fail
 with_reducible refine (midle_p S1.out (by omega)).mono ?_
 rintro e w2 ⟨rfl, v2, s', m'⟩; replace HO := m'.two HO NO; clear ho NO; obtain ⟨HO, NO⟩ := HO; have ho := HO.out.2.1; have M2 := M1.tr m'; obtain ⟨y2, hy⟩ : ∃ q_, q_ = idle y := ⟨_, rfl⟩; rw [← hy] at s'; have Y2 := Lib.hid hy; clear hy; clear hc hf; obtain ⟨hc, hf⟩ := s'.cm; have S2 := Lib.hid s'; clear s' m'
 have z2 : y2.s.r.pc = y.s.r.pc := by rw [Y2.out]; rfl
 have Z2 := Lib.hid z2; clear z2; have pq0 := S2.out.pcb.1; have pq1 := S2.out.pcb.2; have WR := Lib.hid (word_r (y2.s.r.pc + (nl)) ((y2.s.r.pc + (nl)) % 65536) (by omega) (by omega) rfl)
 have jb : 0 ≤ (y2.s.r.pc + (nl)) % 65536 ∧ (y2.s.r.pc + (nl)) % 65536 < 65536 := by omega
 have JB := Lib.hid jb; clear jb; go_wp2_with fail
 with_reducible refine (WR.out _).mono ?_
 rintro e w_ ⟨rfl, rfl⟩; have Q := Lib.hid (S2.out.stPC ((y2.s.r.pc + (nl)) % 65536) JB.out.1 JB.out.2)
 (go_wp2; go_ret)
 refine ⟨rfl, v2, ?_, M2.out.trans Q.out.2⟩
 have q := Q.out.1
 have e : setPC ((y2.s.r.pc + (nl)) % 65536) y2 = setPC (jrV y.s.r.pc nn) (idle y) := by
  rw [Z2.out, Y2.out]
  unfold jrV Alu.signed
  rw [HNL.out, if_neg (by omega)]
 rw [e] at q
 exact q.mo
theorem d_23b (h0 : Sys noD memC w P R M tb v y n) (hn : n < 900000) (x yy s nn nl at_ : Int) (n0 : 0 ≤ nn) (n1 : nn < 65536) (hnl : nn % 256 = nl) (hi : isV y.s.r x = true) (hb : 127 < nl) : Calls Tryz.prog 26 #[.pointer (some ⟨P, 0, none⟩), .pointer (some ⟨R, 0, none⟩), .agg #[.int .i64 23, .int .i64 x, .int .i64 yy, .int .i64 s, .int .u16 nn], .int .u16 at_] w (PE noD memC P R M tb v w (.bool true) (setPC (jrV y.s.r.pc nn) (idle y)) (n + 4)) := by
 have f0 := h0.ok.2.1.1; have f1 := h0.ok.2.1.2
 have b2 : 0 ≤ nl ∧ nl < 256 := by omega
 have NB := Lib.hid b2
 have e2 : nn.tmod 256 = nl := by rw [Int.tmod_eq_emod_of_nonneg n0]; exact hnl
 have e4 : IntKind.u16.wrap nl = nl := IntWalk.u16_in nl (by omega); have e6 : nl % 256 = nl := Int.emod_eq_of_lt b2.1 b2.2; have F := Lib.hid (And.intro f0 f1); have HNL := Lib.hid hnl; clear b2 hnl
 have hnot := nt
 obtain ⟨S0, M0, HO, NO⟩ := h0.beg #[.int .i64 23, .int .i64 x, .int .i64 yy, .int .i64 s, .int .u16 nn] 47; obtain ⟨hc, hf⟩ := S0.out.cm; clear h0; go_enter Tryz.func26, Tryz.ntmps26; go_upto_region 1 with (fail); generalize w.alloc (.cells #[.int .i64 23, .int .i64 x, .int .i64 yy, .int .i64 s, .int .u16 nn] 47) = w0 at S0 M0 HO hc hf ⊢; generalize w.heap.size = ob at HO NO ⊢; have ho := HO.out.2.1; go_wp2_with fail
 with_reducible refine (Alu.z_r y.s.r.f F.out.1 F.out.2 _).mono ?_
 rintro e w_ ⟨rfl, rfl⟩; go_wp2_with fail
 with_reducible refine (Alu.c_r y.s.r.f F.out.1 F.out.2 _).mono ?_
 rintro e w_ ⟨rfl, rfl⟩; go_upto_region 4 with (fail); clear e2 e4 e6; replace S0 := Lib.hid S0.out.drew; replace M0 := Lib.hid (M0.out.trans (PM.drew P R M tb v w0)); replace HO := Lib.hid HO.out.drew; clear ho hc hf
 refine rh HO (fun hHeld => ?_)
 generalize World.drew w0 = u0 at hHeld S0 M0 HO ⊢; refine tz 0 ?_; refine tz 1 ?_; refine tz 2 ?_; refine tz 4 ?_; refine tz 5 ?_
 refine re1 3 (fun K hK => ?_)
 obtain ⟨hc, hf⟩ := S0.out.cm; go_simp; clear hc hf
 refine hK.out _ _ hHeld (fun hNew => ?_); clear hK K hHeld; have hHeld := hNew; clear hNew
 try simp only [Act.put, qqA, qqB, qqC]
 refine re1 6 (fun K hK => ?_)
 go_simp
 go_wp2_with (go_at_call 35; (with_reducible refine (Reg.is_r y.s.r x F.out.1 F.out.2 _).mono ?_); rintro e w1 ⟨rfl, hb⟩)
 have s' := S0.out.below hb; have m' : PM P R M tb v u0 v w1 := PM.of hb; clear hb; replace HO := m'.two HO NO; clear NO; obtain ⟨HO, NO⟩ := HO
 refine hK.out _ _ ⟨HO.out.2.1, trivial⟩ (fun hNew => ?_); clear hK K hHeld; have hHeld := hNew; clear hNew
 have M1 := M0.tr m'; have S1 := Lib.hid s'; clear s' m'; refine tz 7 ?_
 refine wpAnyH_done (by kernel_rfl) ?_ _
 obtain ⟨hc, hf⟩ := S1.out.cm; have ho := HO.out.2.1; clear hHeld; have pc0 := S1.out.pcb.1; have pc1 := S1.out.pcb.2; have nb0 := NB.out.1; have nb1 := NB.out.2; go_wp2_with fail
 with_reducible refine (midle_p S1.out (by omega)).mono ?_
 rintro e w2 ⟨rfl, v2, s', m'⟩; replace HO := m'.two HO NO; clear ho NO; obtain ⟨HO, NO⟩ := HO; have ho := HO.out.2.1; have M2 := M1.tr m'; obtain ⟨y2, hy⟩ : ∃ q_, q_ = idle y := ⟨_, rfl⟩; rw [← hy] at s'; have Y2 := Lib.hid hy; clear hy; clear hc hf; obtain ⟨hc, hf⟩ := s'.cm; have S2 := Lib.hid s'; clear s' m'
 have z2 : y2.s.r.pc = y.s.r.pc := by rw [Y2.out]; rfl
 have Z2 := Lib.hid z2; clear z2; have pq0 := S2.out.pcb.1; have pq1 := S2.out.pcb.2; have WR := Lib.hid (word_r (y2.s.r.pc + (nl - 256)) ((y2.s.r.pc + (nl - 256)) % 65536) (by omega) (by omega) rfl)
 have jb : 0 ≤ (y2.s.r.pc + (nl - 256)) % 65536 ∧ (y2.s.r.pc + (nl - 256)) % 65536 < 65536 := by omega
 have JB := Lib.hid jb; clear jb; go_wp2_with fail
 with_reducible refine (WR.out _).mono ?_
 rintro e w_ ⟨rfl, rfl⟩; have Q := Lib.hid (S2.out.stPC ((y2.s.r.pc + (nl - 256)) % 65536) JB.out.1 JB.out.2)
 (go_wp2; go_ret)
 refine ⟨rfl, v2, ?_, M2.out.trans Q.out.2⟩
 have q := Q.out.1
 have e : setPC ((y2.s.r.pc + (nl - 256)) % 65536) y2 = setPC (jrV y.s.r.pc nn) (idle y) := by
  rw [Z2.out, Y2.out]
  unfold jrV Alu.signed
  rw [HNL.out, if_pos (by omega)]
 rw [e] at q
 exact q.mo
theorem d_24n (h0 : Sys noD memC w P R M tb v y n) (hn : n < 900000) (x yy s nn nl at_ : Int) (n0 : 0 ≤ nn) (n1 : nn < 65536) (hnl : nn % 256 = nl) (hi : isV y.s.r x = false) : Calls Tryz.prog 26 #[.pointer (some ⟨P, 0, none⟩), .pointer (some ⟨R, 0, none⟩), .agg #[.int .i64 24, .int .i64 x, .int .i64 yy, .int .i64 s, .int .u16 nn], .int .u16 at_] w (PE noD memC P R M tb v w (.bool false) (y) (n + 4)) := by
 have f0 := h0.ok.2.1.1; have f1 := h0.ok.2.1.2
 have b2 : 0 ≤ nl ∧ nl < 256 := by omega
 have NB := Lib.hid b2
 have e2 : nn.tmod 256 = nl := by rw [Int.tmod_eq_emod_of_nonneg n0]; exact hnl
 have e4 : IntKind.u16.wrap nl = nl := IntWalk.u16_in nl (by omega); have e6 : nl % 256 = nl := Int.emod_eq_of_lt b2.1 b2.2; have F := Lib.hid (And.intro f0 f1); have HNL := Lib.hid hnl; clear b2 hnl
 have hnot := nt
 obtain ⟨S0, M0, HO, NO⟩ := h0.beg #[.int .i64 24, .int .i64 x, .int .i64 yy, .int .i64 s, .int .u16 nn] 47; obtain ⟨hc, hf⟩ := S0.out.cm; clear h0; go_enter Tryz.func26, Tryz.ntmps26; go_upto_region 1 with (fail); generalize w.alloc (.cells #[.int .i64 24, .int .i64 x, .int .i64 yy, .int .i64 s, .int .u16 nn] 47) = w0 at S0 M0 HO hc hf ⊢; generalize w.heap.size = ob at HO NO ⊢; have ho := HO.out.2.1; go_wp2_with fail
 with_reducible refine (Alu.z_r y.s.r.f F.out.1 F.out.2 _).mono ?_
 rintro e w_ ⟨rfl, rfl⟩; go_wp2_with fail
 with_reducible refine (Alu.c_r y.s.r.f F.out.1 F.out.2 _).mono ?_
 rintro e w_ ⟨rfl, rfl⟩; go_upto_region 4 with (fail); clear e2 e4 e6; replace S0 := Lib.hid S0.out.drew; replace M0 := Lib.hid (M0.out.trans (PM.drew P R M tb v w0)); replace HO := Lib.hid HO.out.drew; clear ho hc hf
 refine rh HO (fun hHeld => ?_)
 generalize World.drew w0 = u0 at hHeld S0 M0 HO ⊢; refine tz 0 ?_; refine tz 1 ?_; refine tz 2 ?_; refine tz 4 ?_; refine tz 5 ?_
 refine re1 3 (fun K hK => ?_)
 obtain ⟨hc, hf⟩ := S0.out.cm; go_simp; clear hc hf
 refine hK.out _ _ hHeld (fun hNew => ?_); clear hK K hHeld; have hHeld := hNew; clear hNew
 try simp only [Act.put, qqA, qqB, qqC]
 refine re1 6 (fun K hK => ?_)
 go_simp
 go_wp2_with (go_at_call 35; (with_reducible refine (Reg.is_r y.s.r x F.out.1 F.out.2 _).mono ?_); rintro e w1 ⟨rfl, hb⟩)
 have s' := S0.out.below hb; have m' : PM P R M tb v u0 v w1 := PM.of hb; clear hb; replace HO := m'.two HO NO; clear NO; obtain ⟨HO, NO⟩ := HO
 refine hK.out _ _ ⟨HO.out.2.1, trivial⟩ (fun hNew => ?_); clear hK K hHeld; have hHeld := hNew; clear hNew
 have M1 := M0.tr m'; have S1 := Lib.hid s'; clear s' m'; refine tz 7 ?_
 refine wpAnyH_done (by kernel_rfl) ?_ _
 obtain ⟨hc, hf⟩ := S1.out.cm; have ho := HO.out.2.1; clear hHeld; go_wp2; go_ret
 refine ⟨rfl, v, ?_, M1.out⟩
 have q := S1.out
 exact q.mo
theorem d_24 (h0 : Sys noD memC w P R M tb v y n) (hn : n < 900000) (x yy s nn nl at_ : Int) (n0 : 0 ≤ nn) (n1 : nn < 65536) (hnl : nn % 256 = nl) (hi : isV y.s.r x = true) : Calls Tryz.prog 26 #[.pointer (some ⟨P, 0, none⟩), .pointer (some ⟨R, 0, none⟩), .agg #[.int .i64 24, .int .i64 x, .int .i64 yy, .int .i64 s, .int .u16 nn], .int .u16 at_] w (PE noD memC P R M tb v w (.bool true) (setPC nn (idle y)) (n + 4)) := by
 have f0 := h0.ok.2.1.1; have f1 := h0.ok.2.1.2
 have b2 : 0 ≤ nl ∧ nl < 256 := by omega
 have NB := Lib.hid b2
 have e2 : nn.tmod 256 = nl := by rw [Int.tmod_eq_emod_of_nonneg n0]; exact hnl
 have e4 : IntKind.u16.wrap nl = nl := IntWalk.u16_in nl (by omega); have e6 : nl % 256 = nl := Int.emod_eq_of_lt b2.1 b2.2; have F := Lib.hid (And.intro f0 f1); have HNL := Lib.hid hnl; clear b2 hnl
 have hnot := nt
 obtain ⟨S0, M0, HO, NO⟩ := h0.beg #[.int .i64 24, .int .i64 x, .int .i64 yy, .int .i64 s, .int .u16 nn] 47; obtain ⟨hc, hf⟩ := S0.out.cm; clear h0; go_enter Tryz.func26, Tryz.ntmps26; go_upto_region 1 with (fail); generalize w.alloc (.cells #[.int .i64 24, .int .i64 x, .int .i64 yy, .int .i64 s, .int .u16 nn] 47) = w0 at S0 M0 HO hc hf ⊢; generalize w.heap.size = ob at HO NO ⊢; have ho := HO.out.2.1; go_wp2_with fail
 with_reducible refine (Alu.z_r y.s.r.f F.out.1 F.out.2 _).mono ?_
 rintro e w_ ⟨rfl, rfl⟩; go_wp2_with fail
 with_reducible refine (Alu.c_r y.s.r.f F.out.1 F.out.2 _).mono ?_
 rintro e w_ ⟨rfl, rfl⟩; go_upto_region 4 with (fail); clear e2 e4 e6; replace S0 := Lib.hid S0.out.drew; replace M0 := Lib.hid (M0.out.trans (PM.drew P R M tb v w0)); replace HO := Lib.hid HO.out.drew; clear ho hc hf
 refine rh HO (fun hHeld => ?_)
 generalize World.drew w0 = u0 at hHeld S0 M0 HO ⊢; refine tz 0 ?_; refine tz 1 ?_; refine tz 2 ?_; refine tz 4 ?_; refine tz 5 ?_
 refine re1 3 (fun K hK => ?_)
 obtain ⟨hc, hf⟩ := S0.out.cm; go_simp; clear hc hf
 refine hK.out _ _ hHeld (fun hNew => ?_); clear hK K hHeld; have hHeld := hNew; clear hNew
 try simp only [Act.put, qqA, qqB, qqC]
 refine re1 6 (fun K hK => ?_)
 go_simp
 go_wp2_with (go_at_call 35; (with_reducible refine (Reg.is_r y.s.r x F.out.1 F.out.2 _).mono ?_); rintro e w1 ⟨rfl, hb⟩)
 have s' := S0.out.below hb; have m' : PM P R M tb v u0 v w1 := PM.of hb; clear hb; replace HO := m'.two HO NO; clear NO; obtain ⟨HO, NO⟩ := HO
 refine hK.out _ _ ⟨HO.out.2.1, trivial⟩ (fun hNew => ?_); clear hK K hHeld; have hHeld := hNew; clear hNew
 have M1 := M0.tr m'; have S1 := Lib.hid s'; clear s' m'; refine tz 7 ?_
 refine wpAnyH_done (by kernel_rfl) ?_ _
 obtain ⟨hc, hf⟩ := S1.out.cm; have ho := HO.out.2.1; clear hHeld; go_wp2_with fail
 with_reducible refine (midle_p S1.out (by omega)).mono ?_
 rintro e w2 ⟨rfl, v2, s', m'⟩; replace HO := m'.two HO NO; clear ho NO; obtain ⟨HO, NO⟩ := HO; have ho := HO.out.2.1; have M2 := M1.tr m'; obtain ⟨y2, hy⟩ : ∃ q_, q_ = idle y := ⟨_, rfl⟩; rw [← hy] at s'; have Y2 := Lib.hid hy; clear hy; clear hc hf; obtain ⟨hc, hf⟩ := s'.cm; have S2 := Lib.hid s'; clear s' m'; have Q0 := Lib.hid (S2.out.stPC nn n0 n1)
 (go_wp2; go_ret)
 refine ⟨rfl, v2, ?_, (M2.out.trans Q0.out.2)⟩
 have q := Q0.out.1; have e := Y2.out.symm; subst e
 exact q.mo
theorem d_25n (h0 : Sys noD memC w P R M tb v y n) (hn : n < 900000) (x yy s nn nl at_ : Int) (n0 : 0 ≤ nn) (n1 : nn < 65536) (hnl : nn % 256 = nl) (hi : isV y.s.r x = false) : Calls Tryz.prog 26 #[.pointer (some ⟨P, 0, none⟩), .pointer (some ⟨R, 0, none⟩), .agg #[.int .i64 25, .int .i64 x, .int .i64 yy, .int .i64 s, .int .u16 nn], .int .u16 at_] w (PE noD memC P R M tb v w (.bool false) (y) (n + 4)) := by
 have f0 := h0.ok.2.1.1; have f1 := h0.ok.2.1.2
 have b2 : 0 ≤ nl ∧ nl < 256 := by omega
 have NB := Lib.hid b2
 have e2 : nn.tmod 256 = nl := by rw [Int.tmod_eq_emod_of_nonneg n0]; exact hnl
 have e4 : IntKind.u16.wrap nl = nl := IntWalk.u16_in nl (by omega); have e6 : nl % 256 = nl := Int.emod_eq_of_lt b2.1 b2.2; have F := Lib.hid (And.intro f0 f1); have HNL := Lib.hid hnl; clear b2 hnl
 have hnot := nt
 obtain ⟨S0, M0, HO, NO⟩ := h0.beg #[.int .i64 25, .int .i64 x, .int .i64 yy, .int .i64 s, .int .u16 nn] 47; obtain ⟨hc, hf⟩ := S0.out.cm; clear h0; go_enter Tryz.func26, Tryz.ntmps26; go_upto_region 1 with (fail); generalize w.alloc (.cells #[.int .i64 25, .int .i64 x, .int .i64 yy, .int .i64 s, .int .u16 nn] 47) = w0 at S0 M0 HO hc hf ⊢; generalize w.heap.size = ob at HO NO ⊢; have ho := HO.out.2.1; go_wp2_with fail
 with_reducible refine (Alu.z_r y.s.r.f F.out.1 F.out.2 _).mono ?_
 rintro e w_ ⟨rfl, rfl⟩; go_wp2_with fail
 with_reducible refine (Alu.c_r y.s.r.f F.out.1 F.out.2 _).mono ?_
 rintro e w_ ⟨rfl, rfl⟩; go_upto_region 4 with (fail); clear e2 e4 e6; replace S0 := Lib.hid S0.out.drew; replace M0 := Lib.hid (M0.out.trans (PM.drew P R M tb v w0)); replace HO := Lib.hid HO.out.drew; clear ho hc hf
 refine rh HO (fun hHeld => ?_)
 generalize World.drew w0 = u0 at hHeld S0 M0 HO ⊢; refine tz 0 ?_; refine tz 1 ?_; refine tz 2 ?_; refine tz 4 ?_; refine tz 5 ?_
 refine re1 3 (fun K hK => ?_)
 obtain ⟨hc, hf⟩ := S0.out.cm; go_simp; clear hc hf
 refine hK.out _ _ hHeld (fun hNew => ?_); clear hK K hHeld; have hHeld := hNew; clear hNew
 try simp only [Act.put, qqA, qqB, qqC]
 refine re1 6 (fun K hK => ?_)
 go_simp
 go_wp2_with (go_at_call 35; (with_reducible refine (Reg.is_r y.s.r x F.out.1 F.out.2 _).mono ?_); rintro e w1 ⟨rfl, hb⟩)
 have s' := S0.out.below hb; have m' : PM P R M tb v u0 v w1 := PM.of hb; clear hb; replace HO := m'.two HO NO; clear NO; obtain ⟨HO, NO⟩ := HO
 refine hK.out _ _ ⟨HO.out.2.1, trivial⟩ (fun hNew => ?_); clear hK K hHeld; have hHeld := hNew; clear hNew
 have M1 := M0.tr m'; have S1 := Lib.hid s'; clear s' m'; refine tz 7 ?_
 refine wpAnyH_done (by kernel_rfl) ?_ _
 obtain ⟨hc, hf⟩ := S1.out.cm; have ho := HO.out.2.1; clear hHeld; go_wp2; go_ret
 refine ⟨rfl, v, ?_, M1.out⟩
 have q := S1.out
 exact q.mo
theorem d_25 (h0 : Sys noD memC w P R M tb v y n) (hn : n < 900000) (x yy s nn nl at_ : Int) (n0 : 0 ≤ nn) (n1 : nn < 65536) (hnl : nn % 256 = nl) (hi : isV y.s.r x = true) : Calls Tryz.prog 26 #[.pointer (some ⟨P, 0, none⟩), .pointer (some ⟨R, 0, none⟩), .agg #[.int .i64 25, .int .i64 x, .int .i64 yy, .int .i64 s, .int .u16 nn], .int .u16 at_] w (PE noD memC P R M tb v w (.bool true) (enterS nn y) (n + 4)) := by
 have f0 := h0.ok.2.1.1; have f1 := h0.ok.2.1.2
 have b2 : 0 ≤ nl ∧ nl < 256 := by omega
 have NB := Lib.hid b2
 have e2 : nn.tmod 256 = nl := by rw [Int.tmod_eq_emod_of_nonneg n0]; exact hnl
 have e4 : IntKind.u16.wrap nl = nl := IntWalk.u16_in nl (by omega); have e6 : nl % 256 = nl := Int.emod_eq_of_lt b2.1 b2.2; have F := Lib.hid (And.intro f0 f1); have HNL := Lib.hid hnl; clear b2 hnl
 have hnot := nt
 obtain ⟨S0, M0, HO, NO⟩ := h0.beg #[.int .i64 25, .int .i64 x, .int .i64 yy, .int .i64 s, .int .u16 nn] 47; obtain ⟨hc, hf⟩ := S0.out.cm; clear h0; go_enter Tryz.func26, Tryz.ntmps26; go_upto_region 1 with (fail); generalize w.alloc (.cells #[.int .i64 25, .int .i64 x, .int .i64 yy, .int .i64 s, .int .u16 nn] 47) = w0 at S0 M0 HO hc hf ⊢; generalize w.heap.size = ob at HO NO ⊢; have ho := HO.out.2.1; go_wp2_with fail
 with_reducible refine (Alu.z_r y.s.r.f F.out.1 F.out.2 _).mono ?_
 rintro e w_ ⟨rfl, rfl⟩; go_wp2_with fail
 with_reducible refine (Alu.c_r y.s.r.f F.out.1 F.out.2 _).mono ?_
 rintro e w_ ⟨rfl, rfl⟩; go_upto_region 4 with (fail); clear e2 e4 e6; replace S0 := Lib.hid S0.out.drew; replace M0 := Lib.hid (M0.out.trans (PM.drew P R M tb v w0)); replace HO := Lib.hid HO.out.drew; clear ho hc hf
 refine rh HO (fun hHeld => ?_)
 generalize World.drew w0 = u0 at hHeld S0 M0 HO ⊢; refine tz 0 ?_; refine tz 1 ?_; refine tz 2 ?_; refine tz 4 ?_; refine tz 5 ?_
 refine re1 3 (fun K hK => ?_)
 obtain ⟨hc, hf⟩ := S0.out.cm; go_simp; clear hc hf
 refine hK.out _ _ hHeld (fun hNew => ?_); clear hK K hHeld; have hHeld := hNew; clear hNew
 try simp only [Act.put, qqA, qqB, qqC]
 refine re1 6 (fun K hK => ?_)
 go_simp
 go_wp2_with (go_at_call 35; (with_reducible refine (Reg.is_r y.s.r x F.out.1 F.out.2 _).mono ?_); rintro e w1 ⟨rfl, hb⟩)
 have s' := S0.out.below hb; have m' : PM P R M tb v u0 v w1 := PM.of hb; clear hb; replace HO := m'.two HO NO; clear NO; obtain ⟨HO, NO⟩ := HO
 refine hK.out _ _ ⟨HO.out.2.1, trivial⟩ (fun hNew => ?_); clear hK K hHeld; have hHeld := hNew; clear hNew
 have M1 := M0.tr m'; have S1 := Lib.hid s'; clear s' m'; refine tz 7 ?_
 refine wpAnyH_done (by kernel_rfl) ?_ _
 obtain ⟨hc, hf⟩ := S1.out.cm; have ho := HO.out.2.1; clear hHeld; go_wp2_with fail
 with_reducible refine (midle_p S1.out (by omega)).mono ?_
 rintro e w2 ⟨rfl, v2, s', m'⟩; replace HO := m'.two HO NO; clear ho NO; obtain ⟨HO, NO⟩ := HO; have ho := HO.out.2.1; have M2 := M1.tr m'; obtain ⟨y2, hy⟩ : ∃ q_, q_ = idle y := ⟨_, rfl⟩; rw [← hy] at s'; have Y2 := Lib.hid hy; clear hy; clear hc hf; obtain ⟨hc, hf⟩ := s'.cm; have S2 := Lib.hid s'; clear s' m'; go_wp2_with fail
 with_reducible refine (mpush_p S2.out (by omega) y2.s.r.pc S2.out.pcb.1 S2.out.pcb.2).mono ?_
 rintro e w3 ⟨rfl, v3, s', m'⟩; replace HO := m'.two HO NO; clear ho NO; obtain ⟨HO, NO⟩ := HO; have ho := HO.out.2.1; have M3 := M2.tr m'; obtain ⟨y3, hy⟩ : ∃ q_, q_ = storeS y2.s.r.pc y2 := ⟨_, rfl⟩; rw [← hy] at s'; have Y3 := Lib.hid hy; clear hy; clear hc hf; obtain ⟨hc, hf⟩ := s'.cm; have S3 := Lib.hid s'; clear s' m'; have Q0 := Lib.hid (S3.out.stPC nn n0 n1)
 (go_wp2; go_ret)
 refine ⟨rfl, v3, ?_, (M3.out.trans Q0.out.2)⟩
 have q := Q0.out.1; have e := Y3.out.symm; subst e; have e := Y2.out.symm; subst e
 exact q.mo
theorem d_26a (h0 : Sys noD memC w P R M tb v y n) (hn : n < 900000) (yy s nn nl at_ : Int) (n0 : 0 ≤ nn) (n1 : nn < 65536) (hnl : nn % 256 = nl) (hi : isV y.s.r 4 = true) : Calls Tryz.prog 26 #[.pointer (some ⟨P, 0, none⟩), .pointer (some ⟨R, 0, none⟩), .agg #[.int .i64 26, .int .i64 4, .int .i64 yy, .int .i64 s, .int .u16 nn], .int .u16 at_] w (PE noD memC P R M tb v w (.bool true) (leaveS y) (n + 4)) := by
 have f0 := h0.ok.2.1.1; have f1 := h0.ok.2.1.2
 have b2 : 0 ≤ nl ∧ nl < 256 := by omega
 have NB := Lib.hid b2
 have e2 : nn.tmod 256 = nl := by rw [Int.tmod_eq_emod_of_nonneg n0]; exact hnl
 have e4 : IntKind.u16.wrap nl = nl := IntWalk.u16_in nl (by omega); have e6 : nl % 256 = nl := Int.emod_eq_of_lt b2.1 b2.2; have F := Lib.hid (And.intro f0 f1); have HNL := Lib.hid hnl; clear b2 hnl
 have hnot := nt
 obtain ⟨S0, M0, HO, NO⟩ := h0.beg #[.int .i64 26, .int .i64 4, .int .i64 yy, .int .i64 s, .int .u16 nn] 47; obtain ⟨hc, hf⟩ := S0.out.cm; clear h0; go_enter Tryz.func26, Tryz.ntmps26; go_upto_region 1 with (fail); generalize w.alloc (.cells #[.int .i64 26, .int .i64 4, .int .i64 yy, .int .i64 s, .int .u16 nn] 47) = w0 at S0 M0 HO hc hf ⊢; generalize w.heap.size = ob at HO NO ⊢; have ho := HO.out.2.1; go_wp2_with fail
 with_reducible refine (Alu.z_r y.s.r.f F.out.1 F.out.2 _).mono ?_
 rintro e w_ ⟨rfl, rfl⟩; go_wp2_with fail
 with_reducible refine (Alu.c_r y.s.r.f F.out.1 F.out.2 _).mono ?_
 rintro e w_ ⟨rfl, rfl⟩; go_upto_region 4 with (fail); clear e2 e4 e6; replace S0 := Lib.hid S0.out.drew; replace M0 := Lib.hid (M0.out.trans (PM.drew P R M tb v w0)); replace HO := Lib.hid HO.out.drew; clear ho hc hf
 refine rh HO (fun hHeld => ?_)
 generalize World.drew w0 = u0 at hHeld S0 M0 HO ⊢; refine tz 0 ?_; refine tz 1 ?_; refine tz 2 ?_; refine tz 4 ?_; refine tz 5 ?_
 refine re1 3 (fun K hK => ?_)
 obtain ⟨hc, hf⟩ := S0.out.cm; go_simp; clear hc hf
 refine hK.out _ _ hHeld (fun hNew => ?_); clear hK K hHeld; have hHeld := hNew; clear hNew
 try simp only [Act.put, qqA, qqB, qqC]
 refine re1 6 (fun K hK => ?_)
 go_simp
 go_wp2_with (go_at_call 35; (with_reducible refine (Reg.is_r y.s.r 4 F.out.1 F.out.2 _).mono ?_); rintro e w1 ⟨rfl, hb⟩)
 have s' := S0.out.below hb; have m' : PM P R M tb v u0 v w1 := PM.of hb; clear hb; replace HO := m'.two HO NO; clear NO; obtain ⟨HO, NO⟩ := HO
 refine hK.out _ _ ⟨HO.out.2.1, trivial⟩ (fun hNew => ?_); clear hK K hHeld; have hHeld := hNew; clear hNew
 have M1 := M0.tr m'; have S1 := Lib.hid s'; clear s' m'; refine tz 7 ?_
 refine wpAnyH_done (by kernel_rfl) ?_ _
 obtain ⟨hc, hf⟩ := S1.out.cm; have ho := HO.out.2.1; clear hHeld; have pv := S1.out.popb; go_wp2_with fail
 with_reducible refine (mpop_p S1.out (by omega)).mono ?_
 rintro e w2 ⟨rfl, v2, s', m'⟩; replace HO := m'.two HO NO; clear ho NO; obtain ⟨HO, NO⟩ := HO; have ho := HO.out.2.1; have M2 := M1.tr m'; obtain ⟨y2, hy⟩ : ∃ q_, q_ = popS y := ⟨_, rfl⟩; rw [← hy] at s'; have Y2 := Lib.hid hy; clear hy; clear hc hf; obtain ⟨hc, hf⟩ := s'.cm; have S2 := Lib.hid s'; clear s' m'; go_wp2_with fail; have q := S2.out.stPC (popV y) pv.1 pv.2; have s' := q.1; have m' := q.2; clear q; generalize (World.setCell w2 ⟨P, 9, none⟩ (.int .u16 (popV y))) = w3 at s' m' ⊢; replace HO := m'.two HO NO; clear ho NO; obtain ⟨HO, NO⟩ := HO; have ho := HO.out.2.1; have M3 := M2.tr m'; obtain ⟨y3, hy⟩ : ∃ q_, q_ = setPC (popV y) y2 := ⟨_, rfl⟩; rw [← hy] at s'; have Y3 := Lib.hid hy; clear hy; clear hc hf; obtain ⟨hc, hf⟩ := s'.cm; have S3 := Lib.hid s'; clear s' m'
 with_reducible refine (midle_p S3.out (by omega)).mono ?_
 rintro e w4 ⟨rfl, v4, s', m'⟩; replace HO := m'.two HO NO; clear ho NO; obtain ⟨HO, NO⟩ := HO; have ho := HO.out.2.1; have M4 := M3.tr m'; obtain ⟨y4, hy⟩ : ∃ q_, q_ = idle y3 := ⟨_, rfl⟩; rw [← hy] at s'; have Y4 := Lib.hid hy; clear hy; clear hc hf; obtain ⟨hc, hf⟩ := s'.cm; have S4 := Lib.hid s'; clear s' m'; go_wp2; go_ret
 refine ⟨rfl, v4, ?_, M4.out⟩
 have q := S4.out; have e := Y4.out.symm; subst e; have e := Y3.out.symm; subst e; have e := Y2.out.symm; subst e
 exact q.mo
theorem d_26b (h0 : Sys noD memC w P R M tb v y n) (hn : n < 900000) (x yy s nn nl at_ : Int) (n0 : 0 ≤ nn) (n1 : nn < 65536) (hnl : nn % 256 = nl) (hi : isV y.s.r x = true) (hx : ¬ x = 4) : Calls Tryz.prog 26 #[.pointer (some ⟨P, 0, none⟩), .pointer (some ⟨R, 0, none⟩), .agg #[.int .i64 26, .int .i64 x, .int .i64 yy, .int .i64 s, .int .u16 nn], .int .u16 at_] w (PE noD memC P R M tb v w (.bool true) (leaveS (idle y)) (n + 4)) := by
 have f0 := h0.ok.2.1.1; have f1 := h0.ok.2.1.2
 have b2 : 0 ≤ nl ∧ nl < 256 := by omega
 have NB := Lib.hid b2
 have e2 : nn.tmod 256 = nl := by rw [Int.tmod_eq_emod_of_nonneg n0]; exact hnl
 have e4 : IntKind.u16.wrap nl = nl := IntWalk.u16_in nl (by omega); have e6 : nl % 256 = nl := Int.emod_eq_of_lt b2.1 b2.2; have F := Lib.hid (And.intro f0 f1); have HNL := Lib.hid hnl; clear b2 hnl
 have hnot := nt
 obtain ⟨S0, M0, HO, NO⟩ := h0.beg #[.int .i64 26, .int .i64 x, .int .i64 yy, .int .i64 s, .int .u16 nn] 47; obtain ⟨hc, hf⟩ := S0.out.cm; clear h0; go_enter Tryz.func26, Tryz.ntmps26; go_upto_region 1 with (fail); generalize w.alloc (.cells #[.int .i64 26, .int .i64 x, .int .i64 yy, .int .i64 s, .int .u16 nn] 47) = w0 at S0 M0 HO hc hf ⊢; generalize w.heap.size = ob at HO NO ⊢; have ho := HO.out.2.1; go_wp2_with fail
 with_reducible refine (Alu.z_r y.s.r.f F.out.1 F.out.2 _).mono ?_
 rintro e w_ ⟨rfl, rfl⟩; go_wp2_with fail
 with_reducible refine (Alu.c_r y.s.r.f F.out.1 F.out.2 _).mono ?_
 rintro e w_ ⟨rfl, rfl⟩; go_upto_region 4 with (fail); clear e2 e4 e6; replace S0 := Lib.hid S0.out.drew; replace M0 := Lib.hid (M0.out.trans (PM.drew P R M tb v w0)); replace HO := Lib.hid HO.out.drew; clear ho hc hf
 refine rh HO (fun hHeld => ?_)
 generalize World.drew w0 = u0 at hHeld S0 M0 HO ⊢; refine tz 0 ?_; refine tz 1 ?_; refine tz 2 ?_; refine tz 4 ?_; refine tz 5 ?_
 refine re1 3 (fun K hK => ?_)
 obtain ⟨hc, hf⟩ := S0.out.cm; go_simp; clear hc hf
 refine hK.out _ _ hHeld (fun hNew => ?_); clear hK K hHeld; have hHeld := hNew; clear hNew
 try simp only [Act.put, qqA, qqB, qqC]
 refine re1 6 (fun K hK => ?_)
 go_simp
 go_wp2_with (go_at_call 35; (with_reducible refine (Reg.is_r y.s.r x F.out.1 F.out.2 _).mono ?_); rintro e w1 ⟨rfl, hb⟩)
 have s' := S0.out.below hb; have m' : PM P R M tb v u0 v w1 := PM.of hb; clear hb; replace HO := m'.two HO NO; clear NO; obtain ⟨HO, NO⟩ := HO
 refine hK.out _ _ ⟨HO.out.2.1, trivial⟩ (fun hNew => ?_); clear hK K hHeld; have hHeld := hNew; clear hNew
 have M1 := M0.tr m'; have S1 := Lib.hid s'; clear s' m'; refine tz 7 ?_
 refine wpAnyH_done (by kernel_rfl) ?_ _
 obtain ⟨hc, hf⟩ := S1.out.cm; have ho := HO.out.2.1; clear hHeld; go_wp2_with fail
 with_reducible refine (midle_p S1.out (by omega)).mono ?_
 rintro e w2 ⟨rfl, v2, s', m'⟩; replace HO := m'.two HO NO; clear ho NO; obtain ⟨HO, NO⟩ := HO; have ho := HO.out.2.1; have M2 := M1.tr m'; obtain ⟨y2, hy⟩ : ∃ q_, q_ = idle y := ⟨_, rfl⟩; rw [← hy] at s'; have Y2 := Lib.hid hy; clear hy; clear hc hf; obtain ⟨hc, hf⟩ := s'.cm; have S2 := Lib.hid s'; clear s' m'; have pv := S2.out.popb; go_wp2_with fail
 with_reducible refine (mpop_p S2.out (by omega)).mono ?_
 rintro e w3 ⟨rfl, v3, s', m'⟩; replace HO := m'.two HO NO; clear ho NO; obtain ⟨HO, NO⟩ := HO; have ho := HO.out.2.1; have M3 := M2.tr m'; obtain ⟨y3, hy⟩ : ∃ q_, q_ = popS y2 := ⟨_, rfl⟩; rw [← hy] at s'; have Y3 := Lib.hid hy; clear hy; clear hc hf; obtain ⟨hc, hf⟩ := s'.cm; have S3 := Lib.hid s'; clear s' m'; go_wp2_with fail; have q := S3.out.stPC (popV y2) pv.1 pv.2; have s' := q.1; have m' := q.2; clear q; generalize (World.setCell w3 ⟨P, 9, none⟩ (.int .u16 (popV y2))) = w4 at s' m' ⊢; replace HO := m'.two HO NO; clear ho NO; obtain ⟨HO, NO⟩ := HO; have ho := HO.out.2.1; have M4 := M3.tr m'; obtain ⟨y4, hy⟩ : ∃ q_, q_ = setPC (popV y2) y3 := ⟨_, rfl⟩; rw [← hy] at s'; have Y4 := Lib.hid hy; clear hy; clear hc hf; obtain ⟨hc, hf⟩ := s'.cm; have S4 := Lib.hid s'; clear s' m'
 with_reducible refine (midle_p S4.out (by omega)).mono ?_
 rintro e w5 ⟨rfl, v5, s', m'⟩; replace HO := m'.two HO NO; clear ho NO; obtain ⟨HO, NO⟩ := HO; have ho := HO.out.2.1; have M5 := M4.tr m'; obtain ⟨y5, hy⟩ : ∃ q_, q_ = idle y4 := ⟨_, rfl⟩; rw [← hy] at s'; have Y5 := Lib.hid hy; clear hy; clear hc hf; obtain ⟨hc, hf⟩ := s'.cm; have S5 := Lib.hid s'; clear s' m'; go_wp2; go_ret
 refine ⟨rfl, v5, ?_, M5.out⟩
 have q := S5.out; have e := Y5.out.symm; subst e; have e := Y4.out.symm; subst e; have e := Y3.out.symm; subst e; have e := Y2.out.symm; subst e
 exact q.mo
theorem d_26n (h0 : Sys noD memC w P R M tb v y n) (hn : n < 900000) (x yy s nn nl at_ : Int) (n0 : 0 ≤ nn) (n1 : nn < 65536) (hnl : nn % 256 = nl) (hi : isV y.s.r x = false) (hx : ¬ x = 4) : Calls Tryz.prog 26 #[.pointer (some ⟨P, 0, none⟩), .pointer (some ⟨R, 0, none⟩), .agg #[.int .i64 26, .int .i64 x, .int .i64 yy, .int .i64 s, .int .u16 nn], .int .u16 at_] w (PE noD memC P R M tb v w (.bool false) (idle y) (n + 4)) := by
 have f0 := h0.ok.2.1.1; have f1 := h0.ok.2.1.2
 have b2 : 0 ≤ nl ∧ nl < 256 := by omega
 have NB := Lib.hid b2
 have e2 : nn.tmod 256 = nl := by rw [Int.tmod_eq_emod_of_nonneg n0]; exact hnl
 have e4 : IntKind.u16.wrap nl = nl := IntWalk.u16_in nl (by omega); have e6 : nl % 256 = nl := Int.emod_eq_of_lt b2.1 b2.2; have F := Lib.hid (And.intro f0 f1); have HNL := Lib.hid hnl; clear b2 hnl
 have hnot := nt
 obtain ⟨S0, M0, HO, NO⟩ := h0.beg #[.int .i64 26, .int .i64 x, .int .i64 yy, .int .i64 s, .int .u16 nn] 47; obtain ⟨hc, hf⟩ := S0.out.cm; clear h0; go_enter Tryz.func26, Tryz.ntmps26; go_upto_region 1 with (fail); generalize w.alloc (.cells #[.int .i64 26, .int .i64 x, .int .i64 yy, .int .i64 s, .int .u16 nn] 47) = w0 at S0 M0 HO hc hf ⊢; generalize w.heap.size = ob at HO NO ⊢; have ho := HO.out.2.1; go_wp2_with fail
 with_reducible refine (Alu.z_r y.s.r.f F.out.1 F.out.2 _).mono ?_
 rintro e w_ ⟨rfl, rfl⟩; go_wp2_with fail
 with_reducible refine (Alu.c_r y.s.r.f F.out.1 F.out.2 _).mono ?_
 rintro e w_ ⟨rfl, rfl⟩; go_upto_region 4 with (fail); clear e2 e4 e6; replace S0 := Lib.hid S0.out.drew; replace M0 := Lib.hid (M0.out.trans (PM.drew P R M tb v w0)); replace HO := Lib.hid HO.out.drew; clear ho hc hf
 refine rh HO (fun hHeld => ?_)
 generalize World.drew w0 = u0 at hHeld S0 M0 HO ⊢; refine tz 0 ?_; refine tz 1 ?_; refine tz 2 ?_; refine tz 4 ?_; refine tz 5 ?_
 refine re1 3 (fun K hK => ?_)
 obtain ⟨hc, hf⟩ := S0.out.cm; go_simp; clear hc hf
 refine hK.out _ _ hHeld (fun hNew => ?_); clear hK K hHeld; have hHeld := hNew; clear hNew
 try simp only [Act.put, qqA, qqB, qqC]
 refine re1 6 (fun K hK => ?_)
 go_simp
 go_wp2_with (go_at_call 35; (with_reducible refine (Reg.is_r y.s.r x F.out.1 F.out.2 _).mono ?_); rintro e w1 ⟨rfl, hb⟩)
 have s' := S0.out.below hb; have m' : PM P R M tb v u0 v w1 := PM.of hb; clear hb; replace HO := m'.two HO NO; clear NO; obtain ⟨HO, NO⟩ := HO
 refine hK.out _ _ ⟨HO.out.2.1, trivial⟩ (fun hNew => ?_); clear hK K hHeld; have hHeld := hNew; clear hNew
 have M1 := M0.tr m'; have S1 := Lib.hid s'; clear s' m'; refine tz 7 ?_
 refine wpAnyH_done (by kernel_rfl) ?_ _
 obtain ⟨hc, hf⟩ := S1.out.cm; have ho := HO.out.2.1; clear hHeld; go_wp2_with fail
 with_reducible refine (midle_p S1.out (by omega)).mono ?_
 rintro e w2 ⟨rfl, v2, s', m'⟩; replace HO := m'.two HO NO; clear ho NO; obtain ⟨HO, NO⟩ := HO; have ho := HO.out.2.1; have M2 := M1.tr m'; obtain ⟨y2, hy⟩ : ∃ q_, q_ = idle y := ⟨_, rfl⟩; rw [← hy] at s'; have Y2 := Lib.hid hy; clear hy; clear hc hf; obtain ⟨hc, hf⟩ := s'.cm; have S2 := Lib.hid s'; clear s' m'; go_wp2; go_ret
 refine ⟨rfl, v2, ?_, M2.out⟩
 have q := S2.out; have e := Y2.out.symm; subst e
 exact q.mo
theorem d_27 (h0 : Sys noD memC w P R M tb v y n) (hn : n < 900000) (x yy s nn nl at_ : Int) (n0 : 0 ≤ nn) (n1 : nn < 65536) (hnl : nn % 256 = nl) : Calls Tryz.prog 26 #[.pointer (some ⟨P, 0, none⟩), .pointer (some ⟨R, 0, none⟩), .agg #[.int .i64 27, .int .i64 x, .int .i64 yy, .int .i64 s, .int .u16 nn], .int .u16 at_] w (PE noD memC P R M tb v w (.bool true) (setIme true (leaveS y)) (n + 4)) := by
 have f0 := h0.ok.2.1.1; have f1 := h0.ok.2.1.2
 have b2 : 0 ≤ nl ∧ nl < 256 := by omega
 have NB := Lib.hid b2
 have e2 : nn.tmod 256 = nl := by rw [Int.tmod_eq_emod_of_nonneg n0]; exact hnl
 have e4 : IntKind.u16.wrap nl = nl := IntWalk.u16_in nl (by omega); have e6 : nl % 256 = nl := Int.emod_eq_of_lt b2.1 b2.2; have F := Lib.hid (And.intro f0 f1); have HNL := Lib.hid hnl; clear b2 hnl
 have hnot := nt
 obtain ⟨S0, M0, HO, NO⟩ := h0.beg #[.int .i64 27, .int .i64 x, .int .i64 yy, .int .i64 s, .int .u16 nn] 47; obtain ⟨hc, hf⟩ := S0.out.cm; clear h0; go_enter Tryz.func26, Tryz.ntmps26; go_upto_region 1 with (fail); generalize w.alloc (.cells #[.int .i64 27, .int .i64 x, .int .i64 yy, .int .i64 s, .int .u16 nn] 47) = w0 at S0 M0 HO hc hf ⊢; generalize w.heap.size = ob at HO NO ⊢; have ho := HO.out.2.1; go_wp2_with fail
 with_reducible refine (Alu.z_r y.s.r.f F.out.1 F.out.2 _).mono ?_
 rintro e w_ ⟨rfl, rfl⟩; go_wp2_with fail
 with_reducible refine (Alu.c_r y.s.r.f F.out.1 F.out.2 _).mono ?_
 rintro e w_ ⟨rfl, rfl⟩; go_upto_region 4 with (fail); clear e2 e4 e6; replace S0 := Lib.hid S0.out.drew; replace M0 := Lib.hid (M0.out.trans (PM.drew P R M tb v w0)); replace HO := Lib.hid HO.out.drew; clear ho hc hf
 refine rh HO (fun hHeld => ?_)
 generalize World.drew w0 = u0 at hHeld S0 M0 HO ⊢; refine tz 0 ?_; refine tz 1 ?_; refine tz 2 ?_; refine tz 4 ?_; refine tz 5 ?_
 refine re1 3 (fun K hK => ?_)
 obtain ⟨hc, hf⟩ := S0.out.cm; go_simp; clear hc hf
 refine hK.out _ _ hHeld (fun hNew => ?_); clear hK K hHeld; have hHeld := hNew; clear hNew
 try simp only [Act.put, qqA, qqB, qqC]
 refine re1 6 (fun K hK => ?_)
 go_simp
 go_wp2_with (go_at_call 35; (with_reducible refine (Reg.is_r y.s.r x F.out.1 F.out.2 _).mono ?_); rintro e w1 ⟨rfl, hb⟩)
 have s' := S0.out.below hb; have m' : PM P R M tb v u0 v w1 := PM.of hb; clear hb; replace HO := m'.two HO NO; clear NO; obtain ⟨HO, NO⟩ := HO
 refine hK.out _ _ ⟨HO.out.2.1, trivial⟩ (fun hNew => ?_); clear hK K hHeld; have hHeld := hNew; clear hNew
 have M1 := M0.tr m'; have S1 := Lib.hid s'; clear s' m'; refine tz 7 ?_
 refine wpAnyH_done (by kernel_rfl) ?_ _
 obtain ⟨hc, hf⟩ := S1.out.cm; have ho := HO.out.2.1; clear hHeld; have pv := S1.out.popb; go_wp2_with fail
 with_reducible refine (mpop_p S1.out (by omega)).mono ?_
 rintro e w2 ⟨rfl, v2, s', m'⟩; replace HO := m'.two HO NO; clear ho NO; obtain ⟨HO, NO⟩ := HO; have ho := HO.out.2.1; have M2 := M1.tr m'; obtain ⟨y2, hy⟩ : ∃ q_, q_ = popS y := ⟨_, rfl⟩; rw [← hy] at s'; have Y2 := Lib.hid hy; clear hy; clear hc hf; obtain ⟨hc, hf⟩ := s'.cm; have S2 := Lib.hid s'; clear s' m'; go_wp2_with fail; have q := S2.out.stPC (popV y) pv.1 pv.2; have s' := q.1; have m' := q.2; clear q; generalize (World.setCell w2 ⟨P, 9, none⟩ (.int .u16 (popV y))) = w3 at s' m' ⊢; replace HO := m'.two HO NO; clear ho NO; obtain ⟨HO, NO⟩ := HO; have ho := HO.out.2.1; have M3 := M2.tr m'; obtain ⟨y3, hy⟩ : ∃ q_, q_ = setPC (popV y) y2 := ⟨_, rfl⟩; rw [← hy] at s'; have Y3 := Lib.hid hy; clear hy; clear hc hf; obtain ⟨hc, hf⟩ := s'.cm; have S3 := Lib.hid s'; clear s' m'
 with_reducible refine (midle_p S3.out (by omega)).mono ?_
 rintro e w4 ⟨rfl, v4, s', m'⟩; replace HO := m'.two HO NO; clear ho NO; obtain ⟨HO, NO⟩ := HO; have ho := HO.out.2.1; have M4 := M3.tr m'; obtain ⟨y4, hy⟩ : ∃ q_, q_ = idle y3 := ⟨_, rfl⟩; rw [← hy] at s'; have Y4 := Lib.hid hy; clear hy; clear hc hf; obtain ⟨hc, hf⟩ := s'.cm; have S4 := Lib.hid s'; clear s' m'; have Q0 := Lib.hid (S4.out.stIme true)
 (go_wp2; go_ret)
 refine ⟨rfl, v4, ?_, (M4.out.trans Q0.out.2)⟩
 have q := Q0.out.1; have e := Y4.out.symm; subst e; have e := Y3.out.symm; subst e; have e := Y2.out.symm; subst e
 exact q.mo
theorem d_28 (h0 : Sys noD memC w P R M tb v y n) (hn : n < 900000) (x yy s nn nl at_ : Int) (n0 : 0 ≤ nn) (n1 : nn < 65536) (hnl : nn % 256 = nl) : Calls Tryz.prog 26 #[.pointer (some ⟨P, 0, none⟩), .pointer (some ⟨R, 0, none⟩), .agg #[.int .i64 28, .int .i64 x, .int .i64 yy, .int .i64 s, .int .u16 nn], .int .u16 at_] w (PE noD memC P R M tb v w (.bool true) (enterS nn y) (n + 4)) := by
 have f0 := h0.ok.2.1.1; have f1 := h0.ok.2.1.2
 have b2 : 0 ≤ nl ∧ nl < 256 := by omega
 have NB := Lib.hid b2
 have e2 : nn.tmod 256 = nl := by rw [Int.tmod_eq_emod_of_nonneg n0]; exact hnl
 have e4 : IntKind.u16.wrap nl = nl := IntWalk.u16_in nl (by omega); have e6 : nl % 256 = nl := Int.emod_eq_of_lt b2.1 b2.2; have F := Lib.hid (And.intro f0 f1); have HNL := Lib.hid hnl; clear b2 hnl
 have hnot := nt
 obtain ⟨S0, M0, HO, NO⟩ := h0.beg #[.int .i64 28, .int .i64 x, .int .i64 yy, .int .i64 s, .int .u16 nn] 47; obtain ⟨hc, hf⟩ := S0.out.cm; clear h0; go_enter Tryz.func26, Tryz.ntmps26; go_upto_region 1 with (fail); generalize w.alloc (.cells #[.int .i64 28, .int .i64 x, .int .i64 yy, .int .i64 s, .int .u16 nn] 47) = w0 at S0 M0 HO hc hf ⊢; generalize w.heap.size = ob at HO NO ⊢; have ho := HO.out.2.1; go_wp2_with fail
 with_reducible refine (Alu.z_r y.s.r.f F.out.1 F.out.2 _).mono ?_
 rintro e w_ ⟨rfl, rfl⟩; go_wp2_with fail
 with_reducible refine (Alu.c_r y.s.r.f F.out.1 F.out.2 _).mono ?_
 rintro e w_ ⟨rfl, rfl⟩; go_upto_region 4 with (fail); clear e2 e4 e6; replace S0 := Lib.hid S0.out.drew; replace M0 := Lib.hid (M0.out.trans (PM.drew P R M tb v w0)); replace HO := Lib.hid HO.out.drew; clear ho hc hf
 refine rh HO (fun hHeld => ?_)
 generalize World.drew w0 = u0 at hHeld S0 M0 HO ⊢; refine tz 0 ?_; refine tz 1 ?_; refine tz 2 ?_; refine tz 4 ?_; refine tz 5 ?_
 refine re1 3 (fun K hK => ?_)
 obtain ⟨hc, hf⟩ := S0.out.cm; go_simp; clear hc hf
 refine hK.out _ _ hHeld (fun hNew => ?_); clear hK K hHeld; have hHeld := hNew; clear hNew
 try simp only [Act.put, qqA, qqB, qqC]
 refine re1 6 (fun K hK => ?_)
 go_simp
 go_wp2_with (go_at_call 35; (with_reducible refine (Reg.is_r y.s.r x F.out.1 F.out.2 _).mono ?_); rintro e w1 ⟨rfl, hb⟩)
 have s' := S0.out.below hb; have m' : PM P R M tb v u0 v w1 := PM.of hb; clear hb; replace HO := m'.two HO NO; clear NO; obtain ⟨HO, NO⟩ := HO
 refine hK.out _ _ ⟨HO.out.2.1, trivial⟩ (fun hNew => ?_); clear hK K hHeld; have hHeld := hNew; clear hNew
 have M1 := M0.tr m'; have S1 := Lib.hid s'; clear s' m'; refine tz 7 ?_
 refine wpAnyH_done (by kernel_rfl) ?_ _
 obtain ⟨hc, hf⟩ := S1.out.cm; have ho := HO.out.2.1; clear hHeld; go_wp2_with fail
 with_reducible refine (midle_p S1.out (by omega)).mono ?_
 rintro e w2 ⟨rfl, v2, s', m'⟩; replace HO := m'.two HO NO; clear ho NO; obtain ⟨HO, NO⟩ := HO; have ho := HO.out.2.1; have M2 := M1.tr m'; obtain ⟨y2, hy⟩ : ∃ q_, q_ = idle y := ⟨_, rfl⟩; rw [← hy] at s'; have Y2 := Lib.hid hy; clear hy; clear hc hf; obtain ⟨hc, hf⟩ := s'.cm; have S2 := Lib.hid s'; clear s' m'; go_wp2_with fail
 with_reducible refine (mpush_p S2.out (by omega) y2.s.r.pc S2.out.pcb.1 S2.out.pcb.2).mono ?_
 rintro e w3 ⟨rfl, v3, s', m'⟩; replace HO := m'.two HO NO; clear ho NO; obtain ⟨HO, NO⟩ := HO; have ho := HO.out.2.1; have M3 := M2.tr m'; obtain ⟨y3, hy⟩ : ∃ q_, q_ = storeS y2.s.r.pc y2 := ⟨_, rfl⟩; rw [← hy] at s'; have Y3 := Lib.hid hy; clear hy; clear hc hf; obtain ⟨hc, hf⟩ := s'.cm; have S3 := Lib.hid s'; clear s' m'; have Q0 := Lib.hid (S3.out.stPC nn n0 n1)
 (go_wp2; go_ret)
 refine ⟨rfl, v3, ?_, (M3.out.trans Q0.out.2)⟩
 have q := Q0.out.1; have e := Y3.out.symm; subst e; have e := Y2.out.symm; subst e
 exact q.mo
theorem d_29 (h0 : Sys noD memC w P R M tb v y n) (hn : n < 900000) (x yy s nn nl at_ : Int) (n0 : 0 ≤ nn) (n1 : nn < 65536) (hnl : nn % 256 = nl) : Calls Tryz.prog 26 #[.pointer (some ⟨P, 0, none⟩), .pointer (some ⟨R, 0, none⟩), .agg #[.int .i64 29, .int .i64 x, .int .i64 yy, .int .i64 s, .int .u16 nn], .int .u16 at_] w (PE noD memC P R M tb v w (.bool true) (setPC (hlV y) y) (n + 4)) := by
 have f0 := h0.ok.2.1.1; have f1 := h0.ok.2.1.2
 have b2 : 0 ≤ nl ∧ nl < 256 := by omega
 have NB := Lib.hid b2
 have e2 : nn.tmod 256 = nl := by rw [Int.tmod_eq_emod_of_nonneg n0]; exact hnl
 have e4 : IntKind.u16.wrap nl = nl := IntWalk.u16_in nl (by omega); have e6 : nl % 256 = nl := Int.emod_eq_of_lt b2.1 b2.2; have F := Lib.hid (And.intro f0 f1); have HNL := Lib.hid hnl; clear b2 hnl
 have hnot := nt
 obtain ⟨S0, M0, HO, NO⟩ := h0.beg #[.int .i64 29, .int .i64 x, .int .i64 yy, .int .i64 s, .int .u16 nn] 47; obtain ⟨hc, hf⟩ := S0.out.cm; clear h0; go_enter Tryz.func26, Tryz.ntmps26; go_upto_region 1 with (fail); generalize w.alloc (.cells #[.int .i64 29, .int .i64 x, .int .i64 yy, .int .i64 s, .int .u16 nn] 47) = w0 at S0 M0 HO hc hf ⊢; generalize w.heap.size = ob at HO NO ⊢; have ho := HO.out.2.1; go_wp2_with fail
 with_reducible refine (Alu.z_r y.s.r.f F.out.1 F.out.2 _).mono ?_
 rintro e w_ ⟨rfl, rfl⟩; go_wp2_with fail
 with_reducible refine (Alu.c_r y.s.r.f F.out.1 F.out.2 _).mono ?_
 rintro e w_ ⟨rfl, rfl⟩; go_upto_region 4 with (fail); clear e2 e4 e6; replace S0 := Lib.hid S0.out.drew; replace M0 := Lib.hid (M0.out.trans (PM.drew P R M tb v w0)); replace HO := Lib.hid HO.out.drew; clear ho hc hf
 refine rh HO (fun hHeld => ?_)
 generalize World.drew w0 = u0 at hHeld S0 M0 HO ⊢; refine tz 0 ?_; refine tz 1 ?_; refine tz 2 ?_; refine tz 4 ?_; refine tz 5 ?_
 refine re1 3 (fun K hK => ?_)
 obtain ⟨hc, hf⟩ := S0.out.cm; go_simp; clear hc hf
 refine hK.out _ _ hHeld (fun hNew => ?_); clear hK K hHeld; have hHeld := hNew; clear hNew
 try simp only [Act.put, qqA, qqB, qqC]
 refine re1 6 (fun K hK => ?_)
 go_simp
 go_wp2_with (go_at_call 35; (with_reducible refine (Reg.is_r y.s.r x F.out.1 F.out.2 _).mono ?_); rintro e w1 ⟨rfl, hb⟩)
 have s' := S0.out.below hb; have m' : PM P R M tb v u0 v w1 := PM.of hb; clear hb; replace HO := m'.two HO NO; clear NO; obtain ⟨HO, NO⟩ := HO
 refine hK.out _ _ ⟨HO.out.2.1, trivial⟩ (fun hNew => ?_); clear hK K hHeld; have hHeld := hNew; clear hNew
 have M1 := M0.tr m'; have S1 := Lib.hid s'; clear s' m'; refine tz 7 ?_
 refine wpAnyH_done (by kernel_rfl) ?_ _
 obtain ⟨hc, hf⟩ := S1.out.cm; have ho := HO.out.2.1; clear hHeld; have hl := S1.out.hlb; go_wp2_with fail
 with_reducible refine (mpair_p S1.out (by omega) 2).mono ?_
 rintro e w2 ⟨rfl, v2, s', m'⟩; replace HO := m'.two HO NO; clear ho NO; obtain ⟨HO, NO⟩ := HO; have ho := HO.out.2.1; have M2 := M1.tr m'; clear hc hf; obtain ⟨hc, hf⟩ := s'.cm; have S2 := Lib.hid s'; clear s' m'; have Q0 := Lib.hid (S2.out.stPC (pairV y.s.r 2) hl.1 hl.2)
 (go_wp2; go_ret)
 refine ⟨rfl, v2, ?_, (M2.out.trans Q0.out.2)⟩
 have q := Q0.out.1
 exact q.mo
theorem d_30 (h0 : Sys noD memC w P R M tb v y n) (hn : n < 900000) (x yy s nn nl at_ : Int) (n0 : 0 ≤ nn) (n1 : nn < 65536) (hnl : nn % 256 = nl) : Calls Tryz.prog 26 #[.pointer (some ⟨P, 0, none⟩), .pointer (some ⟨R, 0, none⟩), .agg #[.int .i64 30, .int .i64 x, .int .i64 yy, .int .i64 s, .int .u16 nn], .int .u16 at_] w (PE noD memC P R M tb v w (.bool true) (pushS (pairV y.s.r x) y) (n + 4)) := by
 have f0 := h0.ok.2.1.1; have f1 := h0.ok.2.1.2
 have b2 : 0 ≤ nl ∧ nl < 256 := by omega
 have NB := Lib.hid b2
 have e2 : nn.tmod 256 = nl := by rw [Int.tmod_eq_emod_of_nonneg n0]; exact hnl
 have e4 : IntKind.u16.wrap nl = nl := IntWalk.u16_in nl (by omega); have e6 : nl % 256 = nl := Int.emod_eq_of_lt b2.1 b2.2; have F := Lib.hid (And.intro f0 f1); have HNL := Lib.hid hnl; clear b2 hnl
 have hnot := nt
 obtain ⟨S0, M0, HO, NO⟩ := h0.beg #[.int .i64 30, .int .i64 x, .int .i64 yy, .int .i64 s, .int .u16 nn] 47; obtain ⟨hc, hf⟩ := S0.out.cm; clear h0; go_enter Tryz.func26, Tryz.ntmps26; go_upto_region 1 with (fail); generalize w.alloc (.cells #[.int .i64 30, .int .i64 x, .int .i64 yy, .int .i64 s, .int .u16 nn] 47) = w0 at S0 M0 HO hc hf ⊢; generalize w.heap.size = ob at HO NO ⊢; have ho := HO.out.2.1; go_wp2_with fail
 with_reducible refine (Alu.z_r y.s.r.f F.out.1 F.out.2 _).mono ?_
 rintro e w_ ⟨rfl, rfl⟩; go_wp2_with fail
 with_reducible refine (Alu.c_r y.s.r.f F.out.1 F.out.2 _).mono ?_
 rintro e w_ ⟨rfl, rfl⟩; go_upto_region 4 with (fail); clear e2 e4 e6; replace S0 := Lib.hid S0.out.drew; replace M0 := Lib.hid (M0.out.trans (PM.drew P R M tb v w0)); replace HO := Lib.hid HO.out.drew; clear ho hc hf
 refine rh HO (fun hHeld => ?_)
 generalize World.drew w0 = u0 at hHeld S0 M0 HO ⊢; refine tz 0 ?_; refine tz 1 ?_; refine tz 2 ?_; refine tz 4 ?_; refine tz 5 ?_
 refine re1 3 (fun K hK => ?_)
 obtain ⟨hc, hf⟩ := S0.out.cm; go_simp; clear hc hf
 refine hK.out _ _ hHeld (fun hNew => ?_); clear hK K hHeld; have hHeld := hNew; clear hNew
 try simp only [Act.put, qqA, qqB, qqC]
 refine re1 6 (fun K hK => ?_)
 go_simp
 go_wp2_with (go_at_call 35; (with_reducible refine (Reg.is_r y.s.r x F.out.1 F.out.2 _).mono ?_); rintro e w1 ⟨rfl, hb⟩)
 have s' := S0.out.below hb; have m' : PM P R M tb v u0 v w1 := PM.of hb; clear hb; replace HO := m'.two HO NO; clear NO; obtain ⟨HO, NO⟩ := HO
 refine hK.out _ _ ⟨HO.out.2.1, trivial⟩ (fun hNew => ?_); clear hK K hHeld; have hHeld := hNew; clear hNew
 have M1 := M0.tr m'; have S1 := Lib.hid s'; clear s' m'; refine tz 7 ?_
 refine wpAnyH_done (by kernel_rfl) ?_ _
 obtain ⟨hc, hf⟩ := S1.out.cm; have ho := HO.out.2.1; clear hHeld; go_wp2_with fail
 with_reducible refine (midle_p S1.out (by omega)).mono ?_
 rintro e w2 ⟨rfl, v2, s', m'⟩; replace HO := m'.two HO NO; clear ho NO; obtain ⟨HO, NO⟩ := HO; have ho := HO.out.2.1; have M2 := M1.tr m'; obtain ⟨y2, hy⟩ : ∃ q_, q_ = idle y := ⟨_, rfl⟩; rw [← hy] at s'; have Y2 := Lib.hid hy; clear hy; clear hc hf; obtain ⟨hc, hf⟩ := s'.cm; have S2 := Lib.hid s'; clear s' m'; go_wp2_with fail
 with_reducible refine (mpair_p S2.out (by omega) x).mono ?_
 rintro e w3 ⟨rfl, v3, s', m'⟩; replace HO := m'.two HO NO; clear ho NO; obtain ⟨HO, NO⟩ := HO; have ho := HO.out.2.1; have M3 := M2.tr m'; clear hc hf; obtain ⟨hc, hf⟩ := s'.cm; have S3 := Lib.hid s'; clear s' m'; have px := pairV_b S3.out.ok x; go_wp2_with fail
 with_reducible refine (mpush_p S3.out (by omega) (pairV y2.s.r x) px.1 px.2).mono ?_
 rintro e w4 ⟨rfl, v4, s', m'⟩; replace HO := m'.two HO NO; clear ho NO; obtain ⟨HO, NO⟩ := HO; have ho := HO.out.2.1; have M4 := M3.tr m'; obtain ⟨y4, hy⟩ : ∃ q_, q_ = storeS (pairV y2.s.r x) y2 := ⟨_, rfl⟩; rw [← hy] at s'; have Y4 := Lib.hid hy; clear hy; clear hc hf; obtain ⟨hc, hf⟩ := s'.cm; have S4 := Lib.hid s'; clear s' m'; go_wp2; go_ret
 refine ⟨rfl, v4, ?_, M4.out⟩
 have q := S4.out; have e := Y4.out.symm; subst e; have e := Y2.out.symm; subst e
 exact q.mo
theorem d_31 (h0 : Sys noD memC w P R M tb v y n) (hn : n < 900000) (x yy s nn nl at_ : Int) (n0 : 0 ≤ nn) (n1 : nn < 65536) (hnl : nn % 256 = nl) : Calls Tryz.prog 26 #[.pointer (some ⟨P, 0, none⟩), .pointer (some ⟨R, 0, none⟩), .agg #[.int .i64 31, .int .i64 x, .int .i64 yy, .int .i64 s, .int .u16 nn], .int .u16 at_] w (PE noD memC P R M tb v w (.bool true) (pairS x (popV y) (popS y)) (n + 4)) := by
 have f0 := h0.ok.2.1.1; have f1 := h0.ok.2.1.2
 have b2 : 0 ≤ nl ∧ nl < 256 := by omega
 have NB := Lib.hid b2
 have e2 : nn.tmod 256 = nl := by rw [Int.tmod_eq_emod_of_nonneg n0]; exact hnl
 have e4 : IntKind.u16.wrap nl = nl := IntWalk.u16_in nl (by omega); have e6 : nl % 256 = nl := Int.emod_eq_of_lt b2.1 b2.2; have F := Lib.hid (And.intro f0 f1); have HNL := Lib.hid hnl; clear b2 hnl
 have hnot := nt
 obtain ⟨S0, M0, HO, NO⟩ := h0.beg #[.int .i64 31, .int .i64 x, .int .i64 yy, .int .i64 s, .int .u16 nn] 47; obtain ⟨hc, hf⟩ := S0.out.cm; clear h0; go_enter Tryz.func26, Tryz.ntmps26; go_upto_region 1 with (fail); generalize w.alloc (.cells #[.int .i64 31, .int .i64 x, .int .i64 yy, .int .i64 s, .int .u16 nn] 47) = w0 at S0 M0 HO hc hf ⊢; generalize w.heap.size = ob at HO NO ⊢; have ho := HO.out.2.1; go_wp2_with fail
 with_reducible refine (Alu.z_r y.s.r.f F.out.1 F.out.2 _).mono ?_
 rintro e w_ ⟨rfl, rfl⟩; go_wp2_with fail
 with_reducible refine (Alu.c_r y.s.r.f F.out.1 F.out.2 _).mono ?_
 rintro e w_ ⟨rfl, rfl⟩; go_upto_region 4 with (fail); clear e2 e4 e6; replace S0 := Lib.hid S0.out.drew; replace M0 := Lib.hid (M0.out.trans (PM.drew P R M tb v w0)); replace HO := Lib.hid HO.out.drew; clear ho hc hf
 refine rh HO (fun hHeld => ?_)
 generalize World.drew w0 = u0 at hHeld S0 M0 HO ⊢; refine tz 0 ?_; refine tz 1 ?_; refine tz 2 ?_; refine tz 4 ?_; refine tz 5 ?_
 refine re1 3 (fun K hK => ?_)
 obtain ⟨hc, hf⟩ := S0.out.cm; go_simp; clear hc hf
 refine hK.out _ _ hHeld (fun hNew => ?_); clear hK K hHeld; have hHeld := hNew; clear hNew
 try simp only [Act.put, qqA, qqB, qqC]
 refine re1 6 (fun K hK => ?_)
 go_simp
 go_wp2_with (go_at_call 35; (with_reducible refine (Reg.is_r y.s.r x F.out.1 F.out.2 _).mono ?_); rintro e w1 ⟨rfl, hb⟩)
 have s' := S0.out.below hb; have m' : PM P R M tb v u0 v w1 := PM.of hb; clear hb; replace HO := m'.two HO NO; clear NO; obtain ⟨HO, NO⟩ := HO
 refine hK.out _ _ ⟨HO.out.2.1, trivial⟩ (fun hNew => ?_); clear hK K hHeld; have hHeld := hNew; clear hNew
 have M1 := M0.tr m'; have S1 := Lib.hid s'; clear s' m'; refine tz 7 ?_
 refine wpAnyH_done (by kernel_rfl) ?_ _
 obtain ⟨hc, hf⟩ := S1.out.cm; have ho := HO.out.2.1; clear hHeld; have pv := S1.out.popb; go_wp2_with fail
 with_reducible refine (mpop_p S1.out (by omega)).mono ?_
 rintro e w2 ⟨rfl, v2, s', m'⟩; replace HO := m'.two HO NO; clear ho NO; obtain ⟨HO, NO⟩ := HO; have ho := HO.out.2.1; have M2 := M1.tr m'; obtain ⟨y2, hy⟩ : ∃ q_, q_ = popS y := ⟨_, rfl⟩; rw [← hy] at s'; have Y2 := Lib.hid hy; clear hy; clear hc hf; obtain ⟨hc, hf⟩ := s'.cm; have S2 := Lib.hid s'; clear s' m'; go_upto_region 103 with (fail); replace S2 := Lib.hid S2.out.drew; replace M2 := Lib.hid (M2.out.trans (PM.drew P R M tb v2 w2)); replace HO := Lib.hid HO.out.drew; clear ho hc hf
 refine rh HO (fun hHeld => ?_)
 generalize World.drew w2 = u2 at hHeld S2 M2 HO ⊢; refine tz 0 ?_; refine tz 1 ?_; refine tz 2 ?_; refine tz 3 ?_; refine tz 5 ?_; refine tz 6 ?_; refine tz 7 ?_
 refine re1 4 (fun K hK => ?_)
 obtain ⟨hc, hf⟩ := S2.out.cm; go_simp; clear hc hf
 refine hK.out _ _ hHeld (fun hNew => ?_); clear hK K hHeld; have hHeld := hNew; clear hNew
 try simp only [Act.put, qqA, qqB, qqC]
 refine re1 8 (fun K hK => ?_)
 go_simp
 go_wp2_with (go_at_call 38; (with_reducible refine (setPair_r y2.s.r x (popV y) pv.1 pv.2 _).mono ?_); rintro e w3 ⟨rfl, hb⟩)
 have s' := S2.out.below hb; have m' : PM P R M tb v2 u2 v2 w3 := PM.of hb; clear hb; replace HO := m'.two HO NO; clear NO; obtain ⟨HO, NO⟩ := HO
 refine hK.out _ _ ⟨HO.out.2.1, trivial⟩ (fun hNew => ?_); clear hK K hHeld; have hHeld := hNew; clear hNew
 have M3 := M2.tr m'; have S3 := Lib.hid s'; clear s' m'; refine tz 9 ?_; refine tz 10 ?_; refine tz 11 ?_; refine tz 12 ?_; refine tz 13 ?_
 refine re1 14 (fun K hK => ?_)
 obtain ⟨hc, hf⟩ := S3.out.cm; go_simp; clear hc hf; have q := S3.out.stR (setP y2.s.r x (popV y)) (setP_ok S3.out.ok x (popV y) pv.1 pv.2); have s' := q.1; have m' := q.2; clear q; replace HO := m'.two HO NO; clear NO; obtain ⟨HO, NO⟩ := HO
 refine hK.out _ _ ⟨HO.out.2.1, trivial⟩ (fun hNew => ?_); clear hK K hHeld; have hHeld := hNew; clear hNew
 generalize (World.setCell (World.setCell (World.setCell (World.setCell (World.setCell (World.setCell (World.setCell (World.setCell (World.setCell (World.setCell w3 ⟨P, 0, none⟩ (.int .u8 (setP y2.s.r x (popV y)).a)) ⟨P, 1, none⟩ (.int .u8 (setP y2.s.r x (popV y)).f)) ⟨P, 2, none⟩ (.int .u8 (setP y2.s.r x (popV y)).b)) ⟨P, 3, none⟩ (.int .u8 (setP y2.s.r x (popV y)).c)) ⟨P, 4, none⟩ (.int .u8 (setP y2.s.r x (popV y)).d)) ⟨P, 5, none⟩ (.int .u8 (setP y2.s.r x (popV y)).e)) ⟨P, 6, none⟩ (.int .u8 (setP y2.s.r x (popV y)).h)) ⟨P, 7, none⟩ (.int .u8 (setP y2.s.r x (popV y)).l)) ⟨P, 8, none⟩ (.int .u16 (setP y2.s.r x (popV y)).sp)) ⟨P, 9, none⟩ (.int .u16 (setP y2.s.r x (popV y)).pc)) = w4 at hHeld s' m' HO ⊢; have M4 := M3.tr m'; obtain ⟨y4, hy⟩ : ∃ q_, q_ = setRR (setP y2.s.r x (popV y)) y2 := ⟨_, rfl⟩; rw [← hy] at s'; have Y4 := Lib.hid hy; clear hy; have S4 := Lib.hid s'; clear s' m'
 refine wpAnyH_done (by kernel_rfl) ?_ _
 obtain ⟨hc, hf⟩ := S4.out.cm; have ho := HO.out.2.1; clear hHeld; go_wp2; go_ret
 refine ⟨rfl, v2, ?_, M4.out⟩
 have q := S4.out; have e := Y4.out.symm; subst e; have e := Y2.out.symm; subst e
 exact q.mo
end
end Go.Proofs.YtngdogldgcgnjaaGreat
