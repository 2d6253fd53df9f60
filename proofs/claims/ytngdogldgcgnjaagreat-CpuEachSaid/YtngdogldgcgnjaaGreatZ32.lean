/-
  What the document's own processor does with bytes and the stack: for every world; the processor is there.
  (Some texts in one.)
-/
import Derived.Test.YtngdogldgcgnjaaGreatZ31
import Derived.Deep.Cut
set_option maxRecDepth 100000
set_option maxHeartbeats 8000000
namespace Go.Proofs.YtngdogldgcgnjaaGreat
open Go.ChangeShapes Go.WideShapes Go.ChangeAt Go.RowKit
open Reg
set_option linter.unusedVariables false
section
variable {w : World} {P R M tb n : Nat} {v : Value} {y : Sy}
theorem mpair_p (h0 : Sys noD memC w P R M tb v y n) (hn : n < 999999) (k : Int) : Calls Tryz.prog 42 #[.pointer (some ⟨P, 0, none⟩), .int .i64 k] w (PE noD memC P R M tb v w (.int .u16 (pairV y.s.r k)) (y) (n + 0)) := by
 have S0 := Lib.hid h0; have M0 := Lib.hid (PM.refl P R M tb v w); obtain ⟨hc, hf⟩ := h0.cm; clear h0; go_enter Tryz.func42, Tryz.ntmps42; go_wp2_with fail
 with_reducible refine (pair_r y.s.r k S0.out.ok _).mono ?_
 rintro e w1 ⟨rfl, hb⟩; have s' := S0.out.below hb; have m' : PM P R M tb v w v w1 := PM.of hb; clear hb; have M1 := M0.tr m'; obtain ⟨y1, hy⟩ : ∃ q_, q_ = y := ⟨_, rfl⟩; rw [← hy] at s'; have Y1 := Lib.hid hy; clear hc hf; obtain ⟨hc, hf⟩ := s'.cm; have S1 := Lib.hid s'; clear s' m' hy; go_wp2; go_ret
 refine ⟨rfl, v, ?_, M1.out⟩
 have q := S1.out; have e := Y1.out.symm; subst e
 exact q.mo
theorem mget_6 (h0 : Sys noD memC w P R M tb v y n) (hn : n < 990000) : Calls Tryz.prog 37 #[.pointer (some ⟨P, 0, none⟩), .pointer (some ⟨R, 0, none⟩), .int .i64 6] w (PE noD memC P R M tb v w (.int .u8 (y.m (hlV y))) (rd 1 (hlV y) y) (n + 1)) := by
 have S0 := Lib.hid h0; have M0 := Lib.hid (PM.refl P R M tb v w); obtain ⟨hc, hf⟩ := h0.cm; clear h0; go_enter Tryz.func37, Tryz.ntmps37; go_wp2_with fail
 with_reducible refine (pair_r y.s.r 2 S0.out.ok _).mono ?_
 rintro e w1 ⟨rfl, hb⟩; have s' := S0.out.below hb; have m' : PM P R M tb v w v w1 := PM.of hb; clear hb; have M1 := M0.tr m'; obtain ⟨y1, hy⟩ : ∃ q_, q_ = y := ⟨_, rfl⟩; rw [← hy] at s'; have Y1 := Lib.hid hy; clear hc hf; obtain ⟨hc, hf⟩ := s'.cm; have S1 := Lib.hid s'; clear s' m' hy; go_wp2_with fail
 with_reducible refine (dor_p S1.out (by omega) (pairV y.s.r 2) (pairV_b S0.out.ok 2).1 (pairV_b S0.out.ok 2).2).mono ?_
 rintro e w2 ⟨rfl, v2, s', m'⟩; have M2 := M1.tr m'; obtain ⟨y2, hy⟩ : ∃ q_, q_ = rd 1 (pairV y.s.r 2) y1 := ⟨_, rfl⟩; rw [← hy] at s'; have Y2 := Lib.hid hy; clear hc hf; obtain ⟨hc, hf⟩ := s'.cm; have S2 := Lib.hid s'; clear s' m' hy; go_wp2; go_ret
 refine ⟨?_, v2, ?_, M2.out⟩
 ·rw [Y1.out]
  rfl
 ·have q := S2.out
  rw [Y2.out, Y1.out] at q
  exact q.mo
theorem mget_n (h0 : Sys noD memC w P R M tb v y n) (hn : n < 990000) (k : Int) (hk : k ≠ 6) : Calls Tryz.prog 37 #[.pointer (some ⟨P, 0, none⟩), .pointer (some ⟨R, 0, none⟩), .int .i64 k] w (PE noD memC P R M tb v w (.int .u8 (getV y.s.r k)) (y) (n + 0)) := by
 have hk6 : (k == 6) = false := by simpa using hk
 have S0 := Lib.hid h0; have M0 := Lib.hid (PM.refl P R M tb v w); obtain ⟨hc, hf⟩ := h0.cm; clear h0; go_enter Tryz.func37, Tryz.ntmps37; go_wp2_with fail
 with_reducible refine (get_r y.s.r k _).mono ?_
 rintro e w1 ⟨rfl, hb⟩; have s' := S0.out.below hb; have m' : PM P R M tb v w v w1 := PM.of hb; clear hb; have M1 := M0.tr m'; obtain ⟨y1, hy⟩ : ∃ q_, q_ = y := ⟨_, rfl⟩; rw [← hy] at s'; have Y1 := Lib.hid hy; clear hc hf; obtain ⟨hc, hf⟩ := s'.cm; have S1 := Lib.hid s'; clear s' m' hy; go_wp2; go_ret
 refine ⟨rfl, v, ?_, M1.out⟩
 have q := S1.out; rw [Y1.out] at q
 exact q.mo
theorem mget_p (h0 : Sys noD memC w P R M tb v y n) (hn : n < 990000) (k : Int) : Calls Tryz.prog 37 #[.pointer (some ⟨P, 0, none⟩), .pointer (some ⟨R, 0, none⟩), .int .i64 k] w (PE noD memC P R M tb v w (.int .u8 (getY k y)) (getS k y) (n + 1)) := by
 unfold getY getS
 by_cases hk : k = 6
 ·subst hk
  rw [if_pos rfl, if_pos rfl]
  exact mget_6 h0 hn
 ·rw [if_neg hk, if_neg hk]
  exact (mget_n h0 hn k hk).mono fun e w' ⟨he, v', s, m⟩ => ⟨he, v', s.mono (by omega), m⟩
theorem mset_6 (h0 : Sys noD memC w P R M tb v y n) (hn : n < 990000) (x : Int) (x0 : 0 ≤ x) (x1 : x < 256) : Calls Tryz.prog 36 #[.pointer (some ⟨P, 0, none⟩), .pointer (some ⟨R, 0, none⟩), .int .i64 6, .int .u8 x] w (PE noD memC P R M tb v w (.tuple #[]) (wr (hlV y) x y) (n + 1)) := by
 have S0 := Lib.hid h0; have M0 := Lib.hid (PM.refl P R M tb v w); obtain ⟨hc, hf⟩ := h0.cm; clear h0; go_enter Tryz.func36, Tryz.ntmps36; go_wp2_with fail
 with_reducible refine (pair_r y.s.r 2 S0.out.ok _).mono ?_
 rintro e w1 ⟨rfl, hb⟩; have s' := S0.out.below hb; have m' : PM P R M tb v w v w1 := PM.of hb; clear hb; have M1 := M0.tr m'; obtain ⟨y1, hy⟩ : ∃ q_, q_ = y := ⟨_, rfl⟩; rw [← hy] at s'; have Y1 := Lib.hid hy; clear hc hf; obtain ⟨hc, hf⟩ := s'.cm; have S1 := Lib.hid s'; clear s' m' hy; go_wp2_with fail
 with_reducible refine (dow_p S1.out (by omega) (pairV y.s.r 2) x (pairV_b S0.out.ok 2).1 (pairV_b S0.out.ok 2).2 x0 x1).mono ?_
 rintro e w2 ⟨rfl, v2, s', m'⟩; have M2 := M1.tr m'; obtain ⟨y2, hy⟩ : ∃ q_, q_ = wr (pairV y.s.r 2) x y1 := ⟨_, rfl⟩; rw [← hy] at s'; have Y2 := Lib.hid hy; clear hc hf; obtain ⟨hc, hf⟩ := s'.cm; have S2 := Lib.hid s'; clear s' m' hy; go_wp2
 first | go_end0 | refine bodyPost_ret (results_none rfl _ _ _) rfl ?_
 refine ⟨rfl, v2, ?_, M2.out⟩
 have q := S2.out; rw [Y2.out, Y1.out] at q
 exact q.mo
theorem mset_n (h0 : Sys noD memC w P R M tb v y n) (hn : n < 990000) (k x : Int) (hk : k ≠ 6) (x0 : 0 ≤ x) (x1 : x < 256) : Calls Tryz.prog 36 #[.pointer (some ⟨P, 0, none⟩), .pointer (some ⟨R, 0, none⟩), .int .i64 k, .int .u8 x] w (PE noD memC P R M tb v w (.tuple #[]) (setRR (setR y.s.r k x) y) (n + 0)) := by
 have hk6 : (k == 6) = false := by simpa using hk
 have S0 := Lib.hid h0; have M0 := Lib.hid (PM.refl P R M tb v w); obtain ⟨hc, hf⟩ := h0.cm; clear h0; go_enter Tryz.func36, Tryz.ntmps36; go_wp2_with fail
 with_reducible refine (set_r y.s.r k x _).mono ?_
 rintro e w1 ⟨rfl, hb⟩; have s1 := S0.out.below hb; clear hc hf; obtain ⟨hc, hf⟩ := s1.cm; have Q := Lib.hid (s1.stR (setR y.s.r k x) (setR_ok S0.out.ok k x x0 x1)); have HB := Lib.hid hb; clear hb s1; go_wp2
 go_end0
 exact ⟨rfl, v, Q.out.1, (M0.out.trans (PM.of HB.out)).trans Q.out.2⟩
theorem mset_p (h0 : Sys noD memC w P R M tb v y n) (hn : n < 990000) (k x : Int) (x0 : 0 ≤ x) (x1 : x < 256) : Calls Tryz.prog 36 #[.pointer (some ⟨P, 0, none⟩), .pointer (some ⟨R, 0, none⟩), .int .i64 k, .int .u8 x] w (PE noD memC P R M tb v w (.tuple #[]) (putS k x y) (n + 1)) := by
 unfold putS
 by_cases hk : k = 6
 ·subst hk
  rw [if_pos rfl]
  exact mset_6 h0 hn x x0 x1
 ·rw [if_neg hk]
  exact (mset_n h0 hn k x hk x0 x1).mono fun e w' ⟨he, v', s, m⟩ => ⟨he, v', s.mono (by omega), m⟩
theorem dn_i (x : Int) : (x - 1) % 65536 = dn x := rfl
theorem up_i (x : Int) : (x + 1) % 65536 = up x := rfl
theorem mpush_p (h0 : Sys noD memC w P R M tb v y n) (hn : n < 990000) (x : Int) (x0 : 0 ≤ x) (x1 : x < 65536) : Calls Tryz.prog 21 #[.pointer (some ⟨P, 0, none⟩), .pointer (some ⟨R, 0, none⟩), .int .u16 x] w (PE noD memC P R M tb v w (.tuple #[]) (storeS x y) (n + 2)) := by
 have sp0 := h0.spb.1; have sp1 := h0.spb.2; obtain ⟨xh, hxh⟩ : ∃ q_, x / 256 = q_ := ⟨_, rfl⟩; obtain ⟨xl, hxl⟩ : ∃ q_, x % 256 = q_ := ⟨_, rfl⟩
 have b1 : 0 ≤ xh ∧ xh < 256 := by omega
 have b2 : 0 ≤ xl ∧ xl < 256 := by omega
 have XB := Lib.hid b1; have XL := Lib.hid b2
 have e1 : x.tdiv 256 = xh := by rw [Int.tdiv_eq_ediv_of_nonneg x0]; exact hxh
 have e2 : x.tmod 256 = xl := by rw [Int.tmod_eq_emod_of_nonneg x0]; exact hxl
 have e3 : IntKind.u16.wrap xh = xh := IntWalk.u16_in xh (by omega); have e4 : IntKind.u16.wrap xl = xl := IntWalk.u16_in xl (by omega); have e5 : xh % 256 = xh := Int.emod_eq_of_lt b1.1 b1.2; have e6 : xl % 256 = xl := Int.emod_eq_of_lt b2.1 b2.2; have HXH := Lib.hid hxh; have HXL := Lib.hid hxl; have WR := Lib.hid (word_r (y.s.r.sp - 1) (dn y.s.r.sp) (by omega) (by omega) rfl); clear b1 b2 hxh hxl; have S0 := Lib.hid h0; have M0 := Lib.hid (PM.refl P R M tb v w); obtain ⟨hc, hf⟩ := h0.cm; clear h0; go_enter Tryz.func21, Tryz.ntmps21; go_wp2_with fail
 with_reducible refine (WR.out _).mono ?_
 rintro e w_ ⟨rfl, rfl⟩; go_wp2_with fail; have q := S0.out.stSP (dn y.s.r.sp) (dn_b _).1 (dn_b _).2; have s' := q.1; have m' := q.2; clear q; generalize (World.setCell w ⟨P, 8, none⟩ (.int .u16 (dn y.s.r.sp))) = w1 at s' m' ⊢; have M1 := M0.tr m'; obtain ⟨y1, hy⟩ : ∃ q_, q_ = setSP (dn y.s.r.sp) y := ⟨_, rfl⟩; rw [← hy] at s'; have Y1 := Lib.hid hy; clear hc hf; obtain ⟨hc, hf⟩ := s'.cm; have S1 := Lib.hid s'; clear s' m' hy
 with_reducible refine (dow_p S1.out (Nat.lt_trans hn (by decide)) (dn y.s.r.sp) xh (dn_b _).1 (dn_b _).2 XB.out.1 XB.out.2).mono ?_
 rintro e w2 ⟨rfl, v2, s', m'⟩; have M2 := M1.tr m'; obtain ⟨y2, hy⟩ : ∃ q_, q_ = wr (dn y.s.r.sp) xh y1 := ⟨_, rfl⟩; rw [← hy] at s'; have Y2 := Lib.hid hy; clear hc hf; obtain ⟨hc, hf⟩ := s'.cm; have S2 := Lib.hid s'; clear s' m' hy; have sq0 := S2.out.spb.1; have sq1 := S2.out.spb.2; have WR2 := Lib.hid (word_r (y2.s.r.sp - 1) (dn y2.s.r.sp) (by clear e1 e2 e3 e4 e5 e6; omega) (by clear e1 e2 e3 e4 e5 e6; omega) rfl); go_wp2_with fail
 with_reducible refine (WR2.out _).mono ?_
 rintro e w_ ⟨rfl, rfl⟩; go_wp2_with fail; have q := S2.out.stSP (dn y2.s.r.sp) (dn_b _).1 (dn_b _).2; have s' := q.1; have m' := q.2; clear q; generalize (World.setCell w2 ⟨P, 8, none⟩ (.int .u16 (dn y2.s.r.sp))) = w3 at s' m' ⊢; have M3 := M2.tr m'; obtain ⟨y3, hy⟩ : ∃ q_, q_ = setSP (dn y2.s.r.sp) y2 := ⟨_, rfl⟩; rw [← hy] at s'; have Y3 := Lib.hid hy; clear hc hf; obtain ⟨hc, hf⟩ := s'.cm; have S3 := Lib.hid s'; clear s' m' hy
 with_reducible refine (dow_p S3.out (by clear e1 e2 e3 e4 e5 e6; omega) (dn y2.s.r.sp) xl (dn_b _).1 (dn_b _).2 XL.out.1 XL.out.2).mono ?_
 rintro e w4 ⟨rfl, v4, s', m'⟩; have M4 := M3.tr m'; obtain ⟨y4, hy⟩ : ∃ q_, q_ = wr (dn y2.s.r.sp) xl y3 := ⟨_, rfl⟩; rw [← hy] at s'; have Y4 := Lib.hid hy; clear hc hf; obtain ⟨hc, hf⟩ := s'.cm; have S4 := Lib.hid s'; clear s' m' hy; go_wp2
 go_end0
 refine ⟨rfl, v4, ?_, M4.out⟩
 have q := S4.out; rw [Y4.out, Y3.out] at q
 have z2 : y2.s.r.sp = dn y.s.r.sp := by rw [Y2.out, Y1.out]; rfl
 rw [z2, Y2.out, Y1.out, ← HXH.out, ← HXL.out] at q
 exact Sys.mono (n' := n + 2) q (by clear e1 e2 e3 e4 e5 e6; omega)
theorem wordb_r (h l : Int) (h0 : 0 ≤ h) (h1 : h < 256) (l0 : 0 ≤ l) (l1 : l < 256) (w : World) : Calls Tryz.prog 69 #[.int .u8 h, .int .u8 l] w fun e w' => e = .returned (.int .u16 (h * 256 + l)) ∧ w = w' := by
 go_enter Tryz.func69, Tryz.ntmps69; go_wp2
 trace_state
 go_ret
 exact ⟨rfl, rfl⟩
end
end Go.Proofs.YtngdogldgcgnjaaGreat
namespace Go.Proofs.YtngdogldgcgnjaaGreat
open Go.ChangeShapes Go.WideShapes Go.ChangeAt Go.RowKit
open Reg
set_option linter.unusedVariables false
section
variable {w : World} {P R M tb n : Nat} {v : Value} {y : Sy}
theorem mpop_p (h0 : Sys noD memC w P R M tb v y n) (hn : n < 990000) : Calls Tryz.prog 47 #[.pointer (some ⟨P, 0, none⟩), .pointer (some ⟨R, 0, none⟩)] w (PE noD memC P R M tb v w (.int .u16 (popV y)) (popS y) (n + 2)) := by
 have sp0 := h0.spb.1; have sp1 := h0.spb.2; have S0 := Lib.hid h0; have M0 := Lib.hid (PM.refl P R M tb v w); obtain ⟨hc, hf⟩ := h0.cm; clear h0; go_enter Tryz.func47, Tryz.ntmps47; go_wp2_with fail
 with_reducible refine (dor_p S0.out (by omega) y.s.r.sp sp0 sp1).mono ?_
 rintro e w1 ⟨rfl, v1, s', m'⟩; have M1 := M0.tr m'; obtain ⟨y1, hy⟩ : ∃ q_, q_ = rd 1 y.s.r.sp y := ⟨_, rfl⟩; rw [← hy] at s'; have Y1 := Lib.hid hy; clear hc hf; obtain ⟨hc, hf⟩ := s'.cm; have S1 := Lib.hid s'; clear s' m' hy; have sq0 := S1.out.spb.1; have sq1 := S1.out.spb.2; have WR := Lib.hid (word_r (y1.s.r.sp + 1) (up y1.s.r.sp) (by omega) (by omega) rfl); go_wp2_with fail
 with_reducible refine (WR.out _).mono ?_
 rintro e w_ ⟨rfl, rfl⟩; go_wp2_with fail; have q := S1.out.stSP (up y1.s.r.sp) (up_b _).1 (up_b _).2; have s' := q.1; have m' := q.2; clear q; generalize (World.setCell w1 ⟨P, 8, none⟩ (.int .u16 (up y1.s.r.sp))) = w2 at s' m' ⊢; have M2 := M1.tr m'; obtain ⟨y2, hy⟩ : ∃ q_, q_ = setSP (up y1.s.r.sp) y1 := ⟨_, rfl⟩; rw [← hy] at s'; have Y2 := Lib.hid hy; clear hc hf; obtain ⟨hc, hf⟩ := s'.cm; have S2 := Lib.hid s'; clear s' m' hy
 with_reducible refine (dor_p S2.out (by omega) (up y1.s.r.sp) (up_b _).1 (up_b _).2).mono ?_
 rintro e w3 ⟨rfl, v3, s', m'⟩; have M3 := M2.tr m'; obtain ⟨y3, hy⟩ : ∃ q_, q_ = rd 1 (up y1.s.r.sp) y2 := ⟨_, rfl⟩; rw [← hy] at s'; have Y3 := Lib.hid hy; clear hc hf; obtain ⟨hc, hf⟩ := s'.cm; have S3 := Lib.hid s'; clear s' m' hy; have sr0 := S3.out.spb.1; have sr1 := S3.out.spb.2; have WR2 := Lib.hid (word_r (y3.s.r.sp + 1) (up y3.s.r.sp) (by omega) (by omega) rfl); go_wp2_with fail
 with_reducible refine (WR2.out _).mono ?_
 rintro e w_ ⟨rfl, rfl⟩; have ha := S2.out.okm (up y1.s.r.sp); have hb_ := S0.out.okm y.s.r.sp; have WB := Lib.hid (wordb_r (y2.m (up y1.s.r.sp)) (y.m y.s.r.sp) ha.1 ha.2 hb_.1 hb_.2); have Q := Lib.hid (S3.out.stSP (up y3.s.r.sp) (up_b _).1 (up_b _).2); go_wp2_with fail
 with_reducible refine (WB.out _).mono ?_
 rintro e w_ ⟨rfl, rfl⟩; go_wp2; go_ret
 have z1 : y1.s.r.sp = y.s.r.sp := by rw [Y1.out]; rfl
 have z3 : y3.s.r.sp = up y.s.r.sp := by rw [Y3.out, Y2.out, z1]; rfl
 have zm : y2.m = y.m := by rw [Y2.out, Y1.out]; rfl
 refine ⟨?_, v3, ?_, M3.out.trans Q.out.2⟩
 ·unfold popV
  rw [zm, z1]
  rfl
 ·have q := Q.out.1
  have e : setSP (up y3.s.r.sp) y3 = popS y := by rw [z3, Y3.out, Y2.out, z1, Y1.out]; rfl
  rw [e] at q
  exact q.mo
theorem mfar_n (h0 : Sys noD memC w P R M tb v y n) (hn : n < 990000) (k : Int) (hk : k < 2) : Calls Tryz.prog 48 #[.pointer (some ⟨P, 0, none⟩), .int .i64 k] w (PE noD memC P R M tb v w (.int .u16 (thruV k y)) (thruS k y) (n + 0)) := by
 have S0 := Lib.hid h0; have M0 := Lib.hid (PM.refl P R M tb v w); obtain ⟨hc, hf⟩ := h0.cm; clear h0; go_enter Tryz.func48, Tryz.ntmps48; go_wp2_with fail
 with_reducible refine (mpair_p S0.out (by omega) k).mono ?_
 rintro e w1 ⟨rfl, v1, s', m'⟩; have M1 := M0.tr m'; obtain ⟨y1, hy⟩ : ∃ q_, q_ = y := ⟨_, rfl⟩; rw [← hy] at s'; have Y1 := Lib.hid hy; clear hc hf; obtain ⟨hc, hf⟩ := s'.cm; have S1 := Lib.hid s'; clear s' m' hy; go_wp2; go_ret
 refine ⟨?_, v1, ?_, M1.out⟩
 ·rw [show thruV k y = pairV y.s.r k by unfold thruV; rw [if_neg (by omega), if_neg (by omega)]]
  rfl
 ·have q := S1.out
  rw [Y1.out] at q
  rw [show thruS k y = y by unfold thruS; rw [if_neg (by omega), if_neg (by omega)]]
  exact q.mo
theorem mfar_2 (h0 : Sys noD memC w P R M tb v y n) (hn : n < 990000) : Calls Tryz.prog 48 #[.pointer (some ⟨P, 0, none⟩), .int .i64 2] w (PE noD memC P R M tb v w (.int .u16 (hlV y)) (pairS 2 (up (hlV y)) y) (n + 0)) := by
 have hl0 := h0.hlb.1; have hl1 := h0.hlb.2; have S0 := Lib.hid h0; have M0 := Lib.hid (PM.refl P R M tb v w); obtain ⟨hc, hf⟩ := h0.cm; clear h0; go_enter Tryz.func48, Tryz.ntmps48; go_wp2_with fail
 with_reducible refine (mpair_p S0.out (by omega) 2).mono ?_
 rintro e w1 ⟨rfl, v1, s', m'⟩; have M1 := M0.tr m'; obtain ⟨y1, hy⟩ : ∃ q_, q_ = y := ⟨_, rfl⟩; rw [← hy] at s'; have Y1 := Lib.hid hy; clear hc hf; obtain ⟨hc, hf⟩ := s'.cm; have S1 := Lib.hid s'; clear s' m' hy; obtain ⟨z, hz⟩ : ∃ q_, hlV y + 1 = q_ := ⟨_, rfl⟩; have WR := Lib.hid (word_r z (up (hlV y)) (by omega) (by omega) (by rw [← hz]; rfl)); have hw : IntKind.i64.wrap (pairV y.s.r 2 + 1) = z := (IntWalk.i64_in _ (by show -9223372036854775808 ≤ hlV y + 1 ∧ hlV y + 1 ≤ 9223372036854775807; omega)).trans hz; have hw0 : IntKind.i64.wrap (pairV y.s.r 2) = pairV y.s.r 2 := IntWalk.i64_in _ (by show -9223372036854775808 ≤ hlV y ∧ hlV y ≤ 9223372036854775807; omega); clear hz; go_upto_region 7 with (fail); have S1' := Lib.hid S1.out.drew; have M1' := Lib.hid (M1.out.trans (PM.drew P R M tb v1 w1)); clear hc hf
 refine wp_region_held_drew (S := (fun w' => (True) ∧ True)) (by kernel_rfl) ⟨True.intro, trivial⟩ (fun hHeld => ?_)
 generalize World.drew w1 = u1 at hHeld S1' M1' ⊢; clear S1 M1; have S1 := S1'; have M1 := M1'; clear S1' M1'; refine tz 0 ?_; refine tz 1 ?_; refine tz 2 ?_; refine tz 3 ?_; refine tz 5 ?_; refine tz 6 ?_; refine tz 7 ?_; refine tz 8 ?_
 refine wpAnyH_ready (rs := [4, 9]) (by kernel_rfl) (by simp) ?_
 refine (ac rfl (fun K hK => ?_) (ac rfl (fun K hK => ?_) AllReadyH.nil))
 ·skip
  obtain ⟨hc, hf⟩ := S1.out.cm; go_simp; clear hc hf
  refine hK.out _ _ hHeld (fun hNew => ?_); clear hK K hHeld; have hHeld := hNew; clear hNew
  try simp only [Act.put, qqA, qqB, qqC]
  refine re1 9 (fun K hK => ?_)
  go_simp
  go_wp2_with (go_at_call 24; (with_reducible refine (WR.out _).mono ?_); rintro e u' ⟨rfl, rfl⟩)
  refine hK.out _ _ hHeld (fun hNew => ?_); clear hK K hHeld; have hHeld := hNew; clear hNew
  refine re1 10 (fun K hK => ?_)
  go_simp
  go_wp2_with (go_at_call 38; (with_reducible refine (setPair_r y1.s.r 2 (up (hlV y)) (up_b _).1 (up_b _).2 _).mono ?_); rintro e w2 ⟨rfl, hb⟩)
  have s' := S1.out.below hb; have m' : PM P R M tb v1 u1 v1 w2 := PM.of hb; clear hb
  refine hK.out _ _ ⟨True.intro, trivial⟩ (fun hNew => ?_); clear hK K hHeld; have hHeld := hNew; clear hNew
  have M2 := M1.tr m'; obtain ⟨y2, hy⟩ : ∃ q_, q_ = y1 := ⟨_, rfl⟩; rw [← hy] at s'; have Y2 := Lib.hid hy; have S2 := Lib.hid s'; clear s' m' hy; refine tz 11 ?_; refine tz 12 ?_; refine tz 13 ?_; refine tz 14 ?_; refine tz 15 ?_
  refine re1 16 (fun K hK => ?_)
  obtain ⟨hc, hf⟩ := S2.out.cm; go_simp; clear hc hf; have q := S2.out.stR (setP y1.s.r 2 (up (hlV y))) (setP_ok S1.out.ok 2 _ (up_b _).1 (up_b _).2); have s' := q.1; have m' := q.2; clear q
  refine hK.out _ _ ⟨True.intro, trivial⟩ (fun hNew => ?_); clear hK K hHeld; have hHeld := hNew; clear hNew
  generalize (World.setCell (World.setCell (World.setCell (World.setCell (World.setCell (World.setCell (World.setCell (World.setCell (World.setCell (World.setCell w2 ⟨P, 0, none⟩ (.int .u8 (setP y1.s.r 2 (up (hlV y))).a)) ⟨P, 1, none⟩ (.int .u8 (setP y1.s.r 2 (up (hlV y))).f)) ⟨P, 2, none⟩ (.int .u8 (setP y1.s.r 2 (up (hlV y))).b)) ⟨P, 3, none⟩ (.int .u8 (setP y1.s.r 2 (up (hlV y))).c)) ⟨P, 4, none⟩ (.int .u8 (setP y1.s.r 2 (up (hlV y))).d)) ⟨P, 5, none⟩ (.int .u8 (setP y1.s.r 2 (up (hlV y))).e)) ⟨P, 6, none⟩ (.int .u8 (setP y1.s.r 2 (up (hlV y))).h)) ⟨P, 7, none⟩ (.int .u8 (setP y1.s.r 2 (up (hlV y))).l)) ⟨P, 8, none⟩ (.int .u16 (setP y1.s.r 2 (up (hlV y))).sp)) ⟨P, 9, none⟩ (.int .u16 (setP y1.s.r 2 (up (hlV y))).pc)) = w3 at hHeld s' m' ⊢; have M3 := M2.tr m'; obtain ⟨y3, hy⟩ : ∃ q_, q_ = setRR (setP y1.s.r 2 (up (hlV y))) y2 := ⟨_, rfl⟩; rw [← hy] at s'; have Y3 := Lib.hid hy; have S3 := Lib.hid s'; clear s' m' hy
  refine wpAnyH_done (by kernel_rfl) ?_ _
  obtain ⟨hc, hf⟩ := S3.out.cm; clear hHeld; go_wp2; go_ret
  refine ⟨rfl, v1, ?_, M3.out⟩
  have q := S3.out; have e := Y3.out.symm; subst e; have e := Y2.out.symm; subst e; have e := Y1.out.symm; subst e
  exact q.mo
 ·skip
  go_simp
  go_wp2_with (go_at_call 24; (with_reducible refine (WR.out _).mono ?_); rintro e u' ⟨rfl, rfl⟩)
  refine hK.out _ _ hHeld (fun hNew => ?_); clear hK K hHeld; have hHeld := hNew; clear hNew
  refine re1 4 (fun K hK => ?_)
  obtain ⟨hc, hf⟩ := S1.out.cm; go_simp; clear hc hf
  refine hK.out _ _ hHeld (fun hNew => ?_); clear hK K hHeld; have hHeld := hNew; clear hNew
  try simp only [Act.put, qqA, qqB, qqC]
  refine re1 10 (fun K hK => ?_)
  go_simp
  go_wp2_with (go_at_call 38; (with_reducible refine (setPair_r y1.s.r 2 (up (hlV y)) (up_b _).1 (up_b _).2 _).mono ?_); rintro e w2 ⟨rfl, hb⟩)
  have s' := S1.out.below hb; have m' : PM P R M tb v1 u1 v1 w2 := PM.of hb; clear hb
  refine hK.out _ _ ⟨True.intro, trivial⟩ (fun hNew => ?_); clear hK K hHeld; have hHeld := hNew; clear hNew
  have M2 := M1.tr m'; obtain ⟨y2, hy⟩ : ∃ q_, q_ = y1 := ⟨_, rfl⟩; rw [← hy] at s'; have Y2 := Lib.hid hy; have S2 := Lib.hid s'; clear s' m' hy; refine tz 11 ?_; refine tz 12 ?_; refine tz 13 ?_; refine tz 14 ?_; refine tz 15 ?_
  refine re1 16 (fun K hK => ?_)
  obtain ⟨hc, hf⟩ := S2.out.cm; go_simp; clear hc hf; have q := S2.out.stR (setP y1.s.r 2 (up (hlV y))) (setP_ok S1.out.ok 2 _ (up_b _).1 (up_b _).2); have s' := q.1; have m' := q.2; clear q
  refine hK.out _ _ ⟨True.intro, trivial⟩ (fun hNew => ?_); clear hK K hHeld; have hHeld := hNew; clear hNew
  generalize (World.setCell (World.setCell (World.setCell (World.setCell (World.setCell (World.setCell (World.setCell (World.setCell (World.setCell (World.setCell w2 ⟨P, 0, none⟩ (.int .u8 (setP y1.s.r 2 (up (hlV y))).a)) ⟨P, 1, none⟩ (.int .u8 (setP y1.s.r 2 (up (hlV y))).f)) ⟨P, 2, none⟩ (.int .u8 (setP y1.s.r 2 (up (hlV y))).b)) ⟨P, 3, none⟩ (.int .u8 (setP y1.s.r 2 (up (hlV y))).c)) ⟨P, 4, none⟩ (.int .u8 (setP y1.s.r 2 (up (hlV y))).d)) ⟨P, 5, none⟩ (.int .u8 (setP y1.s.r 2 (up (hlV y))).e)) ⟨P, 6, none⟩ (.int .u8 (setP y1.s.r 2 (up (hlV y))).h)) ⟨P, 7, none⟩ (.int .u8 (setP y1.s.r 2 (up (hlV y))).l)) ⟨P, 8, none⟩ (.int .u16 (setP y1.s.r 2 (up (hlV y))).sp)) ⟨P, 9, none⟩ (.int .u16 (setP y1.s.r 2 (up (hlV y))).pc)) = w3 at hHeld s' m' ⊢; have M3 := M2.tr m'; obtain ⟨y3, hy⟩ : ∃ q_, q_ = setRR (setP y1.s.r 2 (up (hlV y))) y2 := ⟨_, rfl⟩; rw [← hy] at s'; have Y3 := Lib.hid hy; have S3 := Lib.hid s'; clear s' m' hy
  refine wpAnyH_done (by kernel_rfl) ?_ _
  obtain ⟨hc, hf⟩ := S3.out.cm; clear hHeld; go_wp2; go_ret
  refine ⟨rfl, v1, ?_, M3.out⟩
  have q := S3.out; have e := Y3.out.symm; subst e; have e := Y2.out.symm; subst e; have e := Y1.out.symm; subst e
  exact q.mo
theorem mfar_3 (h0 : Sys noD memC w P R M tb v y n) (hn : n < 990000) : Calls Tryz.prog 48 #[.pointer (some ⟨P, 0, none⟩), .int .i64 3] w (PE noD memC P R M tb v w (.int .u16 (hlV y)) (pairS 2 (dn (hlV y)) y) (n + 0)) := by
 have hl0 := h0.hlb.1; have hl1 := h0.hlb.2; have S0 := Lib.hid h0; have M0 := Lib.hid (PM.refl P R M tb v w); obtain ⟨hc, hf⟩ := h0.cm; clear h0; go_enter Tryz.func48, Tryz.ntmps48; go_wp2_with fail
 with_reducible refine (mpair_p S0.out (by omega) 2).mono ?_
 rintro e w1 ⟨rfl, v1, s', m'⟩; have M1 := M0.tr m'; obtain ⟨y1, hy⟩ : ∃ q_, q_ = y := ⟨_, rfl⟩; rw [← hy] at s'; have Y1 := Lib.hid hy; clear hc hf; obtain ⟨hc, hf⟩ := s'.cm; have S1 := Lib.hid s'; clear s' m' hy; obtain ⟨z, hz⟩ : ∃ q_, hlV y + -1 = q_ := ⟨_, rfl⟩; have WR := Lib.hid (word_r z (dn (hlV y)) (by omega) (by omega) (by rw [← hz]; rfl)); have hw : IntKind.i64.wrap (pairV y.s.r 2 + -1) = z := (IntWalk.i64_in _ (by show -9223372036854775808 ≤ hlV y + -1 ∧ hlV y + -1 ≤ 9223372036854775807; omega)).trans hz; have hw0 : IntKind.i64.wrap (pairV y.s.r 2) = pairV y.s.r 2 := IntWalk.i64_in _ (by show -9223372036854775808 ≤ hlV y ∧ hlV y ≤ 9223372036854775807; omega); clear hz; go_upto_region 7 with (fail); have S1' := Lib.hid S1.out.drew; have M1' := Lib.hid (M1.out.trans (PM.drew P R M tb v1 w1)); clear hc hf
 refine wp_region_held_drew (S := (fun w' => (True) ∧ True)) (by kernel_rfl) ⟨True.intro, trivial⟩ (fun hHeld => ?_)
 generalize World.drew w1 = u1 at hHeld S1' M1' ⊢; clear S1 M1; have S1 := S1'; have M1 := M1'; clear S1' M1'; refine tz 0 ?_; refine tz 1 ?_; refine tz 2 ?_; refine tz 3 ?_; refine tz 5 ?_; refine tz 6 ?_; refine tz 7 ?_; refine tz 8 ?_
 refine wpAnyH_ready (rs := [4, 9]) (by kernel_rfl) (by simp) ?_
 refine (ac rfl (fun K hK => ?_) (ac rfl (fun K hK => ?_) AllReadyH.nil))
 ·skip
  obtain ⟨hc, hf⟩ := S1.out.cm; go_simp; clear hc hf
  refine hK.out _ _ hHeld (fun hNew => ?_); clear hK K hHeld; have hHeld := hNew; clear hNew
  try simp only [Act.put, qqA, qqB, qqC]
  refine re1 9 (fun K hK => ?_)
  go_simp
  go_wp2_with (go_at_call 24; (with_reducible refine (WR.out _).mono ?_); rintro e u' ⟨rfl, rfl⟩)
  refine hK.out _ _ hHeld (fun hNew => ?_); clear hK K hHeld; have hHeld := hNew; clear hNew
  refine re1 10 (fun K hK => ?_)
  go_simp
  go_wp2_with (go_at_call 38; (with_reducible refine (setPair_r y1.s.r 2 (dn (hlV y)) (dn_b _).1 (dn_b _).2 _).mono ?_); rintro e w2 ⟨rfl, hb⟩)
  have s' := S1.out.below hb; have m' : PM P R M tb v1 u1 v1 w2 := PM.of hb; clear hb
  refine hK.out _ _ ⟨True.intro, trivial⟩ (fun hNew => ?_); clear hK K hHeld; have hHeld := hNew; clear hNew
  have M2 := M1.tr m'; obtain ⟨y2, hy⟩ : ∃ q_, q_ = y1 := ⟨_, rfl⟩; rw [← hy] at s'; have Y2 := Lib.hid hy; have S2 := Lib.hid s'; clear s' m' hy; refine tz 11 ?_; refine tz 12 ?_; refine tz 13 ?_; refine tz 14 ?_; refine tz 15 ?_
  refine re1 16 (fun K hK => ?_)
  obtain ⟨hc, hf⟩ := S2.out.cm; go_simp; clear hc hf; have q := S2.out.stR (setP y1.s.r 2 (dn (hlV y))) (setP_ok S1.out.ok 2 _ (dn_b _).1 (dn_b _).2); have s' := q.1; have m' := q.2; clear q
  refine hK.out _ _ ⟨True.intro, trivial⟩ (fun hNew => ?_); clear hK K hHeld; have hHeld := hNew; clear hNew
  generalize (World.setCell (World.setCell (World.setCell (World.setCell (World.setCell (World.setCell (World.setCell (World.setCell (World.setCell (World.setCell w2 ⟨P, 0, none⟩ (.int .u8 (setP y1.s.r 2 (dn (hlV y))).a)) ⟨P, 1, none⟩ (.int .u8 (setP y1.s.r 2 (dn (hlV y))).f)) ⟨P, 2, none⟩ (.int .u8 (setP y1.s.r 2 (dn (hlV y))).b)) ⟨P, 3, none⟩ (.int .u8 (setP y1.s.r 2 (dn (hlV y))).c)) ⟨P, 4, none⟩ (.int .u8 (setP y1.s.r 2 (dn (hlV y))).d)) ⟨P, 5, none⟩ (.int .u8 (setP y1.s.r 2 (dn (hlV y))).e)) ⟨P, 6, none⟩ (.int .u8 (setP y1.s.r 2 (dn (hlV y))).h)) ⟨P, 7, none⟩ (.int .u8 (setP y1.s.r 2 (dn (hlV y))).l)) ⟨P, 8, none⟩ (.int .u16 (setP y1.s.r 2 (dn (hlV y))).sp)) ⟨P, 9, none⟩ (.int .u16 (setP y1.s.r 2 (dn (hlV y))).pc)) = w3 at hHeld s' m' ⊢; have M3 := M2.tr m'; obtain ⟨y3, hy⟩ : ∃ q_, q_ = setRR (setP y1.s.r 2 (dn (hlV y))) y2 := ⟨_, rfl⟩; rw [← hy] at s'; have Y3 := Lib.hid hy; have S3 := Lib.hid s'; clear s' m' hy
  refine wpAnyH_done (by kernel_rfl) ?_ _
  obtain ⟨hc, hf⟩ := S3.out.cm; clear hHeld; go_wp2; go_ret
  refine ⟨rfl, v1, ?_, M3.out⟩
  have q := S3.out; have e := Y3.out.symm; subst e; have e := Y2.out.symm; subst e; have e := Y1.out.symm; subst e
  exact q.mo
 ·skip
  go_simp
  go_wp2_with (go_at_call 24; (with_reducible refine (WR.out _).mono ?_); rintro e u' ⟨rfl, rfl⟩)
  refine hK.out _ _ hHeld (fun hNew => ?_); clear hK K hHeld; have hHeld := hNew; clear hNew
  refine re1 4 (fun K hK => ?_)
  obtain ⟨hc, hf⟩ := S1.out.cm; go_simp; clear hc hf
  refine hK.out _ _ hHeld (fun hNew => ?_); clear hK K hHeld; have hHeld := hNew; clear hNew
  try simp only [Act.put, qqA, qqB, qqC]
  refine re1 10 (fun K hK => ?_)
  go_simp
  go_wp2_with (go_at_call 38; (with_reducible refine (setPair_r y1.s.r 2 (dn (hlV y)) (dn_b _).1 (dn_b _).2 _).mono ?_); rintro e w2 ⟨rfl, hb⟩)
  have s' := S1.out.below hb; have m' : PM P R M tb v1 u1 v1 w2 := PM.of hb; clear hb
  refine hK.out _ _ ⟨True.intro, trivial⟩ (fun hNew => ?_); clear hK K hHeld; have hHeld := hNew; clear hNew
  have M2 := M1.tr m'; obtain ⟨y2, hy⟩ : ∃ q_, q_ = y1 := ⟨_, rfl⟩; rw [← hy] at s'; have Y2 := Lib.hid hy; have S2 := Lib.hid s'; clear s' m' hy; refine tz 11 ?_; refine tz 12 ?_; refine tz 13 ?_; refine tz 14 ?_; refine tz 15 ?_
  refine re1 16 (fun K hK => ?_)
  obtain ⟨hc, hf⟩ := S2.out.cm; go_simp; clear hc hf; have q := S2.out.stR (setP y1.s.r 2 (dn (hlV y))) (setP_ok S1.out.ok 2 _ (dn_b _).1 (dn_b _).2); have s' := q.1; have m' := q.2; clear q
  refine hK.out _ _ ⟨True.intro, trivial⟩ (fun hNew => ?_); clear hK K hHeld; have hHeld := hNew; clear hNew
  generalize (World.setCell (World.setCell (World.setCell (World.setCell (World.setCell (World.setCell (World.setCell (World.setCell (World.setCell (World.setCell w2 ⟨P, 0, none⟩ (.int .u8 (setP y1.s.r 2 (dn (hlV y))).a)) ⟨P, 1, none⟩ (.int .u8 (setP y1.s.r 2 (dn (hlV y))).f)) ⟨P, 2, none⟩ (.int .u8 (setP y1.s.r 2 (dn (hlV y))).b)) ⟨P, 3, none⟩ (.int .u8 (setP y1.s.r 2 (dn (hlV y))).c)) ⟨P, 4, none⟩ (.int .u8 (setP y1.s.r 2 (dn (hlV y))).d)) ⟨P, 5, none⟩ (.int .u8 (setP y1.s.r 2 (dn (hlV y))).e)) ⟨P, 6, none⟩ (.int .u8 (setP y1.s.r 2 (dn (hlV y))).h)) ⟨P, 7, none⟩ (.int .u8 (setP y1.s.r 2 (dn (hlV y))).l)) ⟨P, 8, none⟩ (.int .u16 (setP y1.s.r 2 (dn (hlV y))).sp)) ⟨P, 9, none⟩ (.int .u16 (setP y1.s.r 2 (dn (hlV y))).pc)) = w3 at hHeld s' m' ⊢; have M3 := M2.tr m'; obtain ⟨y3, hy⟩ : ∃ q_, q_ = setRR (setP y1.s.r 2 (dn (hlV y))) y2 := ⟨_, rfl⟩; rw [← hy] at s'; have Y3 := Lib.hid hy; have S3 := Lib.hid s'; clear s' m' hy
  refine wpAnyH_done (by kernel_rfl) ?_ _
  obtain ⟨hc, hf⟩ := S3.out.cm; clear hHeld; go_wp2; go_ret
  refine ⟨rfl, v1, ?_, M3.out⟩
  have q := S3.out; have e := Y3.out.symm; subst e; have e := Y2.out.symm; subst e; have e := Y1.out.symm; subst e
  exact q.mo
end
end Go.Proofs.YtngdogldgcgnjaaGreat
