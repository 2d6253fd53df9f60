/-
 A cycle of the document's unit: for every unit as it can be; no other condition.
-/
import Derived.Test.YtpfbodmadmneiaaTz
import Derived.Test.YtpfbodmadmneiaaRf
import Derived.Test.YtpfbodmadmneiaaPt
import Derived.Test.YtpfbodmadmneiaaLn
import Derived.Test.YtpfbodmadmneiaaLnr
import Derived.Deep.Cut
import Derived.BigQuiet
import Derived.WalkSmall
import Derived.Deep.DeepCutAuto
import Derived.Deep.CutBlock
namespace Go.Proofs.Ytpfbodmadmneiaa
open Go.ChangeShapes Go.WideShapes Go.ChangeAt Go.RowKit
set_option linter.unusedVariables false
set_option linter.unusedSimpArgs false
set_option maxRecDepth 100000
theorem r72 : IsRow 72 5 := ⟨⟨_, Try.underlying72, rfl⟩, by kernel_rfl⟩
set_option maxHeartbeats 2000000 in
theorem rtick_off (r v s : Nat) (m : M) (c : Int) (hc : m 8352 = c) (c0 : 0 ≤ c) (c1 : c < 256)  (hz : decide (128 ≤ c) = false) (w : World) (h : RU w r v s m) : Calls Try.prog 29 #[.pointer (some ⟨r, 0, none⟩)] w fun q_ w' => q_ = .returned (.int .u8 0) ∧ RU w' r v s (m) ∧ Keep3 r v s w w' := by
 suffices hall : ∀ w0 : World, Keep3 r v s w0 w → Calls Try.prog 29 #[.pointer (some ⟨r, 0, none⟩)] w fun q_ w' => q_ = .returned (.int .u8 0) ∧ RU w' r v s (m) ∧ Keep3 r v s w0 w' from hall w (Keep3.refl r v s w)
 intro w0 hK
 have P0 := Lib.hid h
 have K0 := Lib.hid hK
 clear h hK
 have Hc := Lib.hid hc
 clear hc
 have HZ := Lib.hid hz
 clear hz
 have hnot : ∀ (x : Bool) (w : World), (Op.unary .not (.bool x)).run Try.prog w = .ok (.bool (!x)) w := fun _ _ => rfl
 go_enter Try.func29, Try.ntmps29
 go_wp2_with (fail)
 with_reducible refine (ron_c r v s m c Hc.out c0 c1 false HZ.out _ P0.out).mono ?_
 rintro q_ w' ⟨rfl, rfl⟩
 go_wp2
 all_goals first | exact bodyPost_ret (v := .int .u8 0) (by simp [results, Try.results29, go_sem]) rfl ⟨rfl, P0.out, K0.out⟩ | exact bodyPost_end (v := .int .u8 0) (by simp [results, Try.results29, go_sem]) rfl ⟨rfl, P0.out, K0.out⟩
set_option maxHeartbeats 16000000 in
theorem rtick_C (r v s : Nat) (m : M) (c : Int) (hc : m 8352 = c) (c0 : 0 ≤ c) (c1 : c < 256) (d : Int) (hd : m 8363 = d) (d0 : 0 ≤ d) (d1 : d < 256) (L : Int) (hL : m 8356 = L) (L0 : 0 ≤ L) (L1 : L < 256)  (hz : decide (128 ≤ c) = true) (D : Int) (hD : d + 1 = D) (hD2 : D < 256) (h63 : (D == 63) = false) (h114 : (D == 114) = false) (m4 : M) (rr : Int) (hr : IntKind.u8.wrap rr = rr) (HS : ∀ W, RU W r v s (upd m 8363 D) → Calls Try.prog 51 #[.pointer (some ⟨r, 0, none⟩)] W fun q_ w' => q_ = .returned (.int .u8 rr) ∧ RU w' r v s m4 ∧ Keep3 r v s W w') (w : World) (h : RU w r v s m) : Calls Try.prog 29 #[.pointer (some ⟨r, 0, none⟩)] w fun q_ w' => q_ = .returned (.int .u8 rr) ∧ RU w' r v s (m4) ∧ Keep3 r v s w w' := by
 suffices hall : ∀ w0 : World, Keep3 r v s w0 w → Calls Try.prog 29 #[.pointer (some ⟨r, 0, none⟩)] w fun q_ w' => q_ = .returned (.int .u8 rr) ∧ RU w' r v s (m4) ∧ Keep3 r v s w0 w' from hall w (Keep3.refl r v s w)
 intro w0 hK
 have P0 := Lib.hid h
 have K0 := Lib.hid hK
 clear h hK
 have Hc := Lib.hid hc
 clear hc
 have Hd := Lib.hid hd
 clear hd
 have HL := Lib.hid hL
 clear hL
 have HZ := Lib.hid hz
 clear hz
 have HD := Lib.hid hD
 clear hD
 have hw : IntKind.i64.wrap (d + 1) = D := by rw [IntKind.wrap_i64]; have := HD.out; omega
 have SS := Lib.hid HS
 clear HS
 have hnot : ∀ (x : Bool) (w : World), (Op.unary .not (.bool x)).run Try.prog w = .ok (.bool (!x)) w := fun _ _ => rfl
 go_enter Try.func29, Try.ntmps29
 go_wp2_with (fail)
 with_reducible refine (ron_c r v s m c Hc.out c0 c1 true HZ.out _ P0.out).mono ?_
 rintro q_ w' ⟨rfl, rfl⟩
 obtain ⟨hc, hf⟩ := P0.out.R.out
 have e_d := rc_i v s (m) 15 d (by decide) (by decide) (Hd.out)
 go_wp2_with (refine store_ri P0.out.R rfl _ _ rfl _ rfl _ rfl (by omega) (by omega) ?_)
 intro u1 hP hk
 clear hc hf e_d
 replace hP : Has u1 r (encR v s (upd m 8363 D)) := hP
 have P1 := Lib.hid (P0.out.setR 8363 (D) (by omega) hP hk)
 have K1 := Lib.hid (K0.out.trans (Keep3.ofR hk))
 clear hP hk P0 K0
 try simp only [Act.put]
 obtain ⟨hc, hf⟩ := P1.out.R.out
 have e_d := rc_i v s (upd m 8363 D) 15 D (by decide) (by decide) (upd_same _ _ _)
 go_wp2_with (fail)
 with_reducible refine (SS.out _ P1.out).mono ?_
 rintro q_ u2 ⟨rfl, hP, hk⟩
 have P2 := Lib.hid hP
 have K2 := Lib.hid (K1.out.trans hk)
 clear hP hk P1 K1
 clear hc hf e_d
 go_wp2
 all_goals first | exact bodyPost_ret (v := .int .u8 rr) (by simp [results, Try.results29, go_sem]) rfl ⟨rfl, P2.out, K2.out⟩ | exact bodyPost_end (v := .int .u8 rr) (by simp [results, Try.results29, go_sem]) rfl ⟨rfl, P2.out, K2.out⟩
set_option maxHeartbeats 16000000 in
theorem rtick_B (r v s : Nat) (m : M) (c : Int) (hc : m 8352 = c) (c0 : 0 ≤ c) (c1 : c < 256) (d : Int) (hd : m 8363 = d) (d0 : 0 ≤ d) (d1 : d < 256) (L : Int) (hL : m 8356 = L) (L0 : 0 ≤ L) (L1 : L < 256)  (hz : decide (128 ≤ c) = true) (D : Int) (hD : d + 1 = D) (hD2 : D < 256) (h63 : (D == 63) = true) (h114 : (D == 114) = false) (hLt : ¬ L < 144) (m4 : M) (rr : Int) (hr : IntKind.u8.wrap rr = rr) (HS : ∀ W, RU W r v s (upd m 8363 D) → Calls Try.prog 51 #[.pointer (some ⟨r, 0, none⟩)] W fun q_ w' => q_ = .returned (.int .u8 rr) ∧ RU w' r v s m4 ∧ Keep3 r v s W w') (w : World) (h : RU w r v s m) : Calls Try.prog 29 #[.pointer (some ⟨r, 0, none⟩)] w fun q_ w' => q_ = .returned (.int .u8 rr) ∧ RU w' r v s (m4) ∧ Keep3 r v s w w' := by
 suffices hall : ∀ w0 : World, Keep3 r v s w0 w → Calls Try.prog 29 #[.pointer (some ⟨r, 0, none⟩)] w fun q_ w' => q_ = .returned (.int .u8 rr) ∧ RU w' r v s (m4) ∧ Keep3 r v s w0 w' from hall w (Keep3.refl r v s w)
 intro w0 hK
 have P0 := Lib.hid h
 have K0 := Lib.hid hK
 clear h hK
 have Hc := Lib.hid hc
 clear hc
 have Hd := Lib.hid hd
 clear hd
 have HL := Lib.hid hL
 clear hL
 have HZ := Lib.hid hz
 clear hz
 have HD := Lib.hid hD
 clear hD
 have hw : IntKind.i64.wrap (d + 1) = D := by rw [IntKind.wrap_i64]; have := HD.out; omega
 have SS := Lib.hid HS
 clear HS
 have hnot : ∀ (x : Bool) (w : World), (Op.unary .not (.bool x)).run Try.prog w = .ok (.bool (!x)) w := fun _ _ => rfl
 go_enter Try.func29, Try.ntmps29
 go_wp2_with (fail)
 with_reducible refine (ron_c r v s m c Hc.out c0 c1 true HZ.out _ P0.out).mono ?_
 rintro q_ w' ⟨rfl, rfl⟩
 obtain ⟨hc, hf⟩ := P0.out.R.out
 have e_d := rc_i v s (m) 15 d (by decide) (by decide) (Hd.out)
 go_wp2_with (refine store_ri P0.out.R rfl _ _ rfl _ rfl _ rfl (by omega) (by omega) ?_)
 intro u1 hP hk
 clear hc hf e_d
 replace hP : Has u1 r (encR v s (upd m 8363 D)) := hP
 have P1 := Lib.hid (P0.out.setR 8363 (D) (by omega) hP hk)
 have K1 := Lib.hid (K0.out.trans (Keep3.ofR hk))
 clear hP hk P0 K0
 try simp only [Act.put]
 obtain ⟨hc, hf⟩ := P1.out.R.out
 have e_d := rc_i v s (upd m 8363 D) 15 D (by decide) (by decide) (upd_same _ _ _)
 have e_L := rc_i v s (upd m 8363 D) 14 L (by decide) (by decide) (HL.out)
 go_wp2_with (fail)
 with_reducible refine (SS.out _ P1.out).mono ?_
 rintro q_ u2 ⟨rfl, hP, hk⟩
 have P2 := Lib.hid hP
 have K2 := Lib.hid (K1.out.trans hk)
 clear hP hk P1 K1
 clear hc hf e_d e_L
 go_wp2
 all_goals first | exact bodyPost_ret (v := .int .u8 rr) (by simp [results, Try.results29, go_sem]) rfl ⟨rfl, P2.out, K2.out⟩ | exact bodyPost_end (v := .int .u8 rr) (by simp [results, Try.results29, go_sem]) rfl ⟨rfl, P2.out, K2.out⟩
set_option maxHeartbeats 16000000 in
theorem rtick_D144 (r v s : Nat) (m : M) (c : Int) (hc : m 8352 = c) (c0 : 0 ≤ c) (c1 : c < 256) (d : Int) (hd : m 8363 = d) (d0 : 0 ≤ d) (d1 : d < 256) (L : Int) (hL : m 8356 = L) (L0 : 0 ≤ L) (L1 : L < 256) (fr : Int) (hfr : m 8365 = fr) (fr0 : 0 ≤ fr) (fr1 : fr < 65536) (ow : Int) (how : m 8364 = ow) (ow0 : 0 ≤ ow) (ow1 : ow < 256)  (hz : decide (128 ≤ c) = true) (D : Int) (hD : d + 1 = D) (hD2 : D < 256) (h63 : (D == 63) = false) (h114 : (D == 114) = true) (N : Int) (hN : L + 1 = N) (hN2 : 0 ≤ N ∧ N ≤ 154) (q1 : (N == 144) = true) (q2 : (N == 154) = false) (m4 : M) (rr : Int) (rt : Int) (hr : IntKind.u8.wrap (1 + rr) = rt) (HS : ∀ W, RU W r v s (upd (upd (upd (upd m 8363 D) 8363 0) 8356 N) 8365 ((fr + 1) % 65536)) → Calls Try.prog 51 #[.pointer (some ⟨r, 0, none⟩)] W fun q_ w' => q_ = .returned (.int .u8 rr) ∧ RU w' r v s m4 ∧ Keep3 r v s W w') (w : World) (h : RU w r v s m) : Calls Try.prog 29 #[.pointer (some ⟨r, 0, none⟩)] w fun q_ w' => q_ = .returned (.int .u8 rt) ∧ RU w' r v s (m4) ∧ Keep3 r v s w w' := by
 suffices hall : ∀ w0 : World, Keep3 r v s w0 w → Calls Try.prog 29 #[.pointer (some ⟨r, 0, none⟩)] w fun q_ w' => q_ = .returned (.int .u8 rt) ∧ RU w' r v s (m4) ∧ Keep3 r v s w0 w' from hall w (Keep3.refl r v s w)
 intro w0 hK
 have P0 := Lib.hid h
 have K0 := Lib.hid hK
 clear h hK
 have Hc := Lib.hid hc
 clear hc
 have Hd := Lib.hid hd
 clear hd
 have HL := Lib.hid hL
 clear hL
 have Hfr := Lib.hid hfr
 clear hfr
 have How := Lib.hid how
 clear how
 have HZ := Lib.hid hz
 clear hz
 have HD := Lib.hid hD
 clear hD
 have hw : IntKind.i64.wrap (d + 1) = D := by rw [IntKind.wrap_i64]; have := HD.out; omega
 have SS := Lib.hid HS
 have HN := Lib.hid hN
 clear HS hN
 have hw2 : IntKind.i64.wrap (L + 1) = N := by rw [IntKind.wrap_i64]; have := HN.out; omega
 have hnot : ∀ (x : Bool) (w : World), (Op.unary .not (.bool x)).run Try.prog w = .ok (.bool (!x)) w := fun _ _ => rfl
 go_enter Try.func29, Try.ntmps29
 go_wp2_with (fail)
 with_reducible refine (ron_c r v s m c Hc.out c0 c1 true HZ.out _ P0.out).mono ?_
 rintro q_ w' ⟨rfl, rfl⟩
 obtain ⟨hc, hf⟩ := P0.out.R.out
 have e_d := rc_i v s (m) 15 d (by decide) (by decide) (Hd.out)
 go_wp2_with (refine store_ri P0.out.R rfl _ _ rfl _ rfl _ rfl (by omega) (by omega) ?_)
 intro u1 hP hk
 clear hc hf e_d
 replace hP : Has u1 r (encR v s (upd m 8363 D)) := hP
 have P1 := Lib.hid (P0.out.setR 8363 (D) (by omega) hP hk)
 have K1 := Lib.hid (K0.out.trans (Keep3.ofR hk))
 clear hP hk P0 K0
 try simp only [Act.put]
 obtain ⟨hc, hf⟩ := P1.out.R.out
 have e_d := rc_i v s (upd m 8363 D) 15 D (by decide) (by decide) (upd_same _ _ _)
 go_wp2_with (refine store_ri P1.out.R rfl _ _ rfl _ rfl _ rfl (by omega) (by omega) ?_)
 intro u2 hP hk
 clear hc hf e_d
 replace hP : Has u2 r (encR v s (upd (upd m 8363 D) 8363 0)) := hP
 have P2 := Lib.hid (P1.out.setR 8363 (0) (by omega) hP hk)
 have K2 := Lib.hid (K1.out.trans (Keep3.ofR hk))
 clear hP hk P1 K1
 try simp only [Act.put]
 obtain ⟨hc, hf⟩ := P2.out.R.out
 have e_L := rc_i v s (upd (upd m 8363 D) 8363 0) 14 L (by decide) (by decide) (HL.out)
 go_wp2_with (refine store_ri P2.out.R rfl _ _ rfl _ rfl _ rfl (by omega) (by omega) ?_)
 intro u3 hP hk
 clear hc hf e_L
 replace hP : Has u3 r (encR v s (upd (upd (upd m 8363 D) 8363 0) 8356 N)) := hP
 have P3 := Lib.hid (P2.out.setR 8356 (N) (by omega) hP hk)
 have K3 := Lib.hid (K2.out.trans (Keep3.ofR hk))
 clear hP hk P2 K2
 try simp only [Act.put]
 obtain ⟨hc, hf⟩ := P3.out.R.out
 have e_L := rc_i v s (upd (upd (upd m 8363 D) 8363 0) 8356 N) 14 N (by decide) (by decide) (upd_same _ _ _)
 have e_fr := rc_i v s (upd (upd (upd m 8363 D) 8363 0) 8356 N) 17 fr (by decide) (by decide) (Hfr.out)
 have hw3 : IntKind.i64.wrap (fr + 1) = fr + 1 := by rw [IntKind.wrap_i64]; omega
 have hw4 : (fr + 1).tmod 65536 = (fr + 1) % 65536 := Int.tmod_eq_emod_of_nonneg (by omega)
 go_wp2_with (refine store_ri P3.out.R rfl _ _ rfl _ rfl _ rfl (by omega) (by omega) ?_)
 intro u4 hP hk
 clear hc hf e_L e_fr
 replace hP : Has u4 r (encR v s (upd (upd (upd (upd m 8363 D) 8363 0) 8356 N) 8365 ((fr + 1) % 65536))) := hP
 have P4 := Lib.hid (P3.out.setR 8365 ((fr + 1) % 65536) (by omega) hP hk)
 have K4 := Lib.hid (K3.out.trans (Keep3.ofR hk))
 clear hP hk P3 K3
 try simp only [Act.put]
 obtain ⟨hc, hf⟩ := P4.out.R.out
 have e_L := rc_i v s (upd (upd (upd (upd m 8363 D) 8363 0) 8356 N) 8365 ((fr + 1) % 65536)) 14 N (by decide) (by decide) ((show upd (upd (upd (upd m 8363 D) 8363 0) 8356 N) 8365 ((fr + 1) % 65536) 8356 = N from (upd_ne _ _ _ _ (by decide)).trans (upd_same _ _ _)))
 go_wp2_with (fail)
 with_reducible refine (SS.out _ P4.out).mono ?_
 rintro q_ u5 ⟨rfl, hP, hk⟩
 have P5 := Lib.hid hP
 have K5 := Lib.hid (K4.out.trans hk)
 clear hP hk P4 K4
 clear hc hf e_L
 go_wp2
 all_goals first | exact bodyPost_ret (v := .int .u8 rt) (by simp [results, Try.results29, go_sem]) rfl ⟨rfl, P5.out, K5.out⟩ | exact bodyPost_end (v := .int .u8 rt) (by simp [results, Try.results29, go_sem]) rfl ⟨rfl, P5.out, K5.out⟩
set_option maxHeartbeats 16000000 in
theorem rtick_D154 (r v s : Nat) (m : M) (c : Int) (hc : m 8352 = c) (c0 : 0 ≤ c) (c1 : c < 256) (d : Int) (hd : m 8363 = d) (d0 : 0 ≤ d) (d1 : d < 256) (L : Int) (hL : m 8356 = L) (L0 : 0 ≤ L) (L1 : L < 256) (fr : Int) (hfr : m 8365 = fr) (fr0 : 0 ≤ fr) (fr1 : fr < 65536) (ow : Int) (how : m 8364 = ow) (ow0 : 0 ≤ ow) (ow1 : ow < 256)  (hz : decide (128 ≤ c) = true) (D : Int) (hD : d + 1 = D) (hD2 : D < 256) (h63 : (D == 63) = false) (h114 : (D == 114) = true) (N : Int) (hN : L + 1 = N) (hN2 : 0 ≤ N ∧ N ≤ 154) (q1 : (N == 144) = false) (q2 : (N == 154) = true) (m4 : M) (rr : Int) (rt : Int) (hr : IntKind.u8.wrap (0 + rr) = rt) (HS : ∀ W, RU W r v s (upd (upd (upd (upd (upd m 8363 D) 8363 0) 8356 N) 8356 0) 8364 0) → Calls Try.prog 51 #[.pointer (some ⟨r, 0, none⟩)] W fun q_ w' => q_ = .returned (.int .u8 rr) ∧ RU w' r v s m4 ∧ Keep3 r v s W w') (w : World) (h : RU w r v s m) : Calls Try.prog 29 #[.pointer (some ⟨r, 0, none⟩)] w fun q_ w' => q_ = .returned (.int .u8 rt) ∧ RU w' r v s (m4) ∧ Keep3 r v s w w' := by
 suffices hall : ∀ w0 : World, Keep3 r v s w0 w → Calls Try.prog 29 #[.pointer (some ⟨r, 0, none⟩)] w fun q_ w' => q_ = .returned (.int .u8 rt) ∧ RU w' r v s (m4) ∧ Keep3 r v s w0 w' from hall w (Keep3.refl r v s w)
 intro w0 hK
 have P0 := Lib.hid h
 have K0 := Lib.hid hK
 clear h hK
 have Hc := Lib.hid hc
 clear hc
 have Hd := Lib.hid hd
 clear hd
 have HL := Lib.hid hL
 clear hL
 have Hfr := Lib.hid hfr
 clear hfr
 have How := Lib.hid how
 clear how
 have HZ := Lib.hid hz
 clear hz
 have HD := Lib.hid hD
 clear hD
 have hw : IntKind.i64.wrap (d + 1) = D := by rw [IntKind.wrap_i64]; have := HD.out; omega
 have SS := Lib.hid HS
 have HN := Lib.hid hN
 clear HS hN
 have hw2 : IntKind.i64.wrap (L + 1) = N := by rw [IntKind.wrap_i64]; have := HN.out; omega
 have hr2 : IntKind.u8.wrap rr = rt := by simpa using hr
 have hnot : ∀ (x : Bool) (w : World), (Op.unary .not (.bool x)).run Try.prog w = .ok (.bool (!x)) w := fun _ _ => rfl
 go_enter Try.func29, Try.ntmps29
 go_wp2_with (fail)
 with_reducible refine (ron_c r v s m c Hc.out c0 c1 true HZ.out _ P0.out).mono ?_
 rintro q_ w' ⟨rfl, rfl⟩
 obtain ⟨hc, hf⟩ := P0.out.R.out
 have e_d := rc_i v s (m) 15 d (by decide) (by decide) (Hd.out)
 go_wp2_with (refine store_ri P0.out.R rfl _ _ rfl _ rfl _ rfl (by omega) (by omega) ?_)
 intro u1 hP hk
 clear hc hf e_d
 replace hP : Has u1 r (encR v s (upd m 8363 D)) := hP
 have P1 := Lib.hid (P0.out.setR 8363 (D) (by omega) hP hk)
 have K1 := Lib.hid (K0.out.trans (Keep3.ofR hk))
 clear hP hk P0 K0
 try simp only [Act.put]
 obtain ⟨hc, hf⟩ := P1.out.R.out
 have e_d := rc_i v s (upd m 8363 D) 15 D (by decide) (by decide) (upd_same _ _ _)
 go_wp2_with (refine store_ri P1.out.R rfl _ _ rfl _ rfl _ rfl (by omega) (by omega) ?_)
 intro u2 hP hk
 clear hc hf e_d
 replace hP : Has u2 r (encR v s (upd (upd m 8363 D) 8363 0)) := hP
 have P2 := Lib.hid (P1.out.setR 8363 (0) (by omega) hP hk)
 have K2 := Lib.hid (K1.out.trans (Keep3.ofR hk))
 clear hP hk P1 K1
 try simp only [Act.put]
 obtain ⟨hc, hf⟩ := P2.out.R.out
 have e_L := rc_i v s (upd (upd m 8363 D) 8363 0) 14 L (by decide) (by decide) (HL.out)
 go_wp2_with (refine store_ri P2.out.R rfl _ _ rfl _ rfl _ rfl (by omega) (by omega) ?_)
 intro u3 hP hk
 clear hc hf e_L
 replace hP : Has u3 r (encR v s (upd (upd (upd m 8363 D) 8363 0) 8356 N)) := hP
 have P3 := Lib.hid (P2.out.setR 8356 (N) (by omega) hP hk)
 have K3 := Lib.hid (K2.out.trans (Keep3.ofR hk))
 clear hP hk P2 K2
 try simp only [Act.put]
 obtain ⟨hc, hf⟩ := P3.out.R.out
 have e_L := rc_i v s (upd (upd (upd m 8363 D) 8363 0) 8356 N) 14 N (by decide) (by decide) (upd_same _ _ _)
 go_wp2_with (refine store_ri P3.out.R rfl _ _ rfl _ rfl _ rfl (by omega) (by omega) ?_)
 intro u4 hP hk
 clear hc hf e_L
 replace hP : Has u4 r (encR v s (upd (upd (upd (upd m 8363 D) 8363 0) 8356 N) 8356 0)) := hP
 have P4 := Lib.hid (P3.out.setR 8356 (0) (by omega) hP hk)
 have K4 := Lib.hid (K3.out.trans (Keep3.ofR hk))
 clear hP hk P3 K3
 try simp only [Act.put]
 obtain ⟨hc, hf⟩ := P4.out.R.out
 go_wp2_with (refine store_ri P4.out.R rfl _ _ rfl _ rfl _ rfl (by omega) (by omega) ?_)
 intro u5 hP hk
 clear hc hf
 replace hP : Has u5 r (encR v s (upd (upd (upd (upd (upd m 8363 D) 8363 0) 8356 N) 8356 0) 8364 0)) := hP
 have P5 := Lib.hid (P4.out.setR 8364 (0) (by omega) hP hk)
 have K5 := Lib.hid (K4.out.trans (Keep3.ofR hk))
 clear hP hk P4 K4
 try simp only [Act.put]
 obtain ⟨hc, hf⟩ := P5.out.R.out
 go_wp2_with (fail)
 with_reducible refine (SS.out _ P5.out).mono ?_
 rintro q_ u6 ⟨rfl, hP, hk⟩
 have P6 := Lib.hid hP
 have K6 := Lib.hid (K5.out.trans hk)
 clear hP hk P5 K5
 clear hc hf
 go_wp2
 all_goals first | exact bodyPost_ret (v := .int .u8 rt) (by simp [results, Try.results29, go_sem]) rfl ⟨rfl, P6.out, K6.out⟩ | exact bodyPost_end (v := .int .u8 rt) (by simp [results, Try.results29, go_sem]) rfl ⟨rfl, P6.out, K6.out⟩
set_option maxHeartbeats 16000000 in
theorem rtick_Dx (r v s : Nat) (m : M) (c : Int) (hc : m 8352 = c) (c0 : 0 ≤ c) (c1 : c < 256) (d : Int) (hd : m 8363 = d) (d0 : 0 ≤ d) (d1 : d < 256) (L : Int) (hL : m 8356 = L) (L0 : 0 ≤ L) (L1 : L < 256) (fr : Int) (hfr : m 8365 = fr) (fr0 : 0 ≤ fr) (fr1 : fr < 65536) (ow : Int) (how : m 8364 = ow) (ow0 : 0 ≤ ow) (ow1 : ow < 256)  (hz : decide (128 ≤ c) = true) (D : Int) (hD : d + 1 = D) (hD2 : D < 256) (h63 : (D == 63) = false) (h114 : (D == 114) = true) (N : Int) (hN : L + 1 = N) (hN2 : 0 ≤ N ∧ N ≤ 154) (q1 : (N == 144) = false) (q2 : (N == 154) = false) (m4 : M) (rr : Int) (rt : Int) (hr : IntKind.u8.wrap (0 + rr) = rt) (HS : ∀ W, RU W r v s (upd (upd (upd m 8363 D) 8363 0) 8356 N) → Calls Try.prog 51 #[.pointer (some ⟨r, 0, none⟩)] W fun q_ w' => q_ = .returned (.int .u8 rr) ∧ RU w' r v s m4 ∧ Keep3 r v s W w') (w : World) (h : RU w r v s m) : Calls Try.prog 29 #[.pointer (some ⟨r, 0, none⟩)] w fun q_ w' => q_ = .returned (.int .u8 rt) ∧ RU w' r v s (m4) ∧ Keep3 r v s w w' := by
 suffices hall : ∀ w0 : World, Keep3 r v s w0 w → Calls Try.prog 29 #[.pointer (some ⟨r, 0, none⟩)] w fun q_ w' => q_ = .returned (.int .u8 rt) ∧ RU w' r v s (m4) ∧ Keep3 r v s w0 w' from hall w (Keep3.refl r v s w)
 intro w0 hK
 have P0 := Lib.hid h
 have K0 := Lib.hid hK
 clear h hK
 have Hc := Lib.hid hc
 clear hc
 have Hd := Lib.hid hd
 clear hd
 have HL := Lib.hid hL
 clear hL
 have Hfr := Lib.hid hfr
 clear hfr
 have How := Lib.hid how
 clear how
 have HZ := Lib.hid hz
 clear hz
 have HD := Lib.hid hD
 clear hD
 have hw : IntKind.i64.wrap (d + 1) = D := by rw [IntKind.wrap_i64]; have := HD.out; omega
 have SS := Lib.hid HS
 have HN := Lib.hid hN
 clear HS hN
 have hw2 : IntKind.i64.wrap (L + 1) = N := by rw [IntKind.wrap_i64]; have := HN.out; omega
 have hr2 : IntKind.u8.wrap rr = rt := by simpa using hr
 have hnot : ∀ (x : Bool) (w : World), (Op.unary .not (.bool x)).run Try.prog w = .ok (.bool (!x)) w := fun _ _ => rfl
 go_enter Try.func29, Try.ntmps29
 go_wp2_with (fail)
 with_reducible refine (ron_c r v s m c Hc.out c0 c1 true HZ.out _ P0.out).mono ?_
 rintro q_ w' ⟨rfl, rfl⟩
 obtain ⟨hc, hf⟩ := P0.out.R.out
 have e_d := rc_i v s (m) 15 d (by decide) (by decide) (Hd.out)
 go_wp2_with (refine store_ri P0.out.R rfl _ _ rfl _ rfl _ rfl (by omega) (by omega) ?_)
 intro u1 hP hk
 clear hc hf e_d
 replace hP : Has u1 r (encR v s (upd m 8363 D)) := hP
 have P1 := Lib.hid (P0.out.setR 8363 (D) (by omega) hP hk)
 have K1 := Lib.hid (K0.out.trans (Keep3.ofR hk))
 clear hP hk P0 K0
 try simp only [Act.put]
 obtain ⟨hc, hf⟩ := P1.out.R.out
 have e_d := rc_i v s (upd m 8363 D) 15 D (by decide) (by decide) (upd_same _ _ _)
 go_wp2_with (refine store_ri P1.out.R rfl _ _ rfl _ rfl _ rfl (by omega) (by omega) ?_)
 intro u2 hP hk
 clear hc hf e_d
 replace hP : Has u2 r (encR v s (upd (upd m 8363 D) 8363 0)) := hP
 have P2 := Lib.hid (P1.out.setR 8363 (0) (by omega) hP hk)
 have K2 := Lib.hid (K1.out.trans (Keep3.ofR hk))
 clear hP hk P1 K1
 try simp only [Act.put]
 obtain ⟨hc, hf⟩ := P2.out.R.out
 have e_L := rc_i v s (upd (upd m 8363 D) 8363 0) 14 L (by decide) (by decide) (HL.out)
 go_wp2_with (refine store_ri P2.out.R rfl _ _ rfl _ rfl _ rfl (by omega) (by omega) ?_)
 intro u3 hP hk
 clear hc hf e_L
 replace hP : Has u3 r (encR v s (upd (upd (upd m 8363 D) 8363 0) 8356 N)) := hP
 have P3 := Lib.hid (P2.out.setR 8356 (N) (by omega) hP hk)
 have K3 := Lib.hid (K2.out.trans (Keep3.ofR hk))
 clear hP hk P2 K2
 try simp only [Act.put]
 obtain ⟨hc, hf⟩ := P3.out.R.out
 have e_L := rc_i v s (upd (upd (upd m 8363 D) 8363 0) 8356 N) 14 N (by decide) (by decide) (upd_same _ _ _)
 go_wp2_with (fail)
 with_reducible refine (SS.out _ P3.out).mono ?_
 rintro q_ u4 ⟨rfl, hP, hk⟩
 have P4 := Lib.hid hP
 have K4 := Lib.hid (K3.out.trans hk)
 clear hP hk P3 K3
 clear hc hf e_L
 go_wp2
 all_goals first | exact bodyPost_ret (v := .int .u8 rt) (by simp [results, Try.results29, go_sem]) rfl ⟨rfl, P4.out, K4.out⟩ | exact bodyPost_end (v := .int .u8 rt) (by simp [results, Try.results29, go_sem]) rfl ⟨rfl, P4.out, K4.out⟩
theorem vid_far (m : M) (o : Nat) (x : Int) (h : 8192 ≤ o) : vid (upd m o x) = vid m := by
 funext k
 unfold vid
 split
 ·exact upd_ne _ _ _ _ (by omega)
 ·rfl
theorem oam_far (m : M) (o : Nat) (x : Int) (h : o < 8192 ∨ 8352 ≤ o) : oam (upd m o x) = oam m := by
 funext k
 unfold oam
 split
 ·exact upd_ne _ _ _ _ (by omega)
 ·rfl
set_option maxHeartbeats 16000000 in
theorem rtick_At (r v s : Nat) (m : M) (c : Int) (hc : m 8352 = c) (c0 : 0 ≤ c) (c1 : c < 256) (sy : Int) (hsy : m 8354 = sy) (sy0 : 0 ≤ sy) (sy1 : sy < 256) (sx : Int) (hsx : m 8355 = sx) (sx0 : 0 ≤ sx) (sx1 : sx < 256) (bk : Int) (hbk : m 8358 = bk) (bk0 : 0 ≤ bk) (bk1 : bk < 256) (fi : Int) (hfi : m 8359 = fi) (fi0 : 0 ≤ fi) (fi1 : fi < 256) (se : Int) (hse : m 8360 = se) (se0 : 0 ≤ se) (se1 : se < 256) (wy : Int) (hwy : m 8361 = wy) (wy0 : 0 ≤ wy) (wy1 : wy < 256) (wx : Int) (hwx : m 8362 = wx) (wx0 : 0 ≤ wx) (wx1 : wx < 256) (ow : Int) (how : m 8364 = ow) (ow0 : 0 ≤ ow) (ow1 : ow < 256) (d : Int) (hd : m 8363 = d) (d0 : 0 ≤ d) (d1 : d < 256)  (hz : decide (128 ≤ c) = true) (D : Int) (hD : d + 1 = D) (hD2 : D < 256) (h63 : (D == 63) = true) (h114 : (D == 114) = false) (B : ∀ o, o < 31407 → o ≠ 8365 → 0 ≤ m o ∧ m o < 256) (n : Nat) (hL : m 8356 = n) (n1 : n < 144) (hs : seenV c wx wy n = true) (U : M) (hU : lineE (vid m) c sx sy wx wy n ow = U) (Q : M) (hQ : firstN (outV c bk fi se (vid m) (oam m) n U) 160 = Q) (okU : okB U) (m4 : M) (rr : Int) (hr : IntKind.u8.wrap rr = rr) (HS : ∀ W, RU W r v s (upd (row (upd m 8363 D) (8348 + (19 + n * 160)) 160 Q) 8364 (ow + 1)) → Calls Try.prog 51 #[.pointer (some ⟨r, 0, none⟩)] W fun q_ w' => q_ = .returned (.int .u8 rr) ∧ RU w' r v s m4 ∧ Keep3 r v s W w') (w : World) (h : RU w r v s m) : Calls Try.prog 29 #[.pointer (some ⟨r, 0, none⟩)] w fun q_ w' => q_ = .returned (.int .u8 rr) ∧ RU w' r v s (m4) ∧ Keep3 r v s w w' := by
 suffices hall : ∀ w0 : World, Keep3 r v s w0 w → Calls Try.prog 29 #[.pointer (some ⟨r, 0, none⟩)] w fun q_ w' => q_ = .returned (.int .u8 rr) ∧ RU w' r v s (m4) ∧ Keep3 r v s w0 w' from hall w (Keep3.refl r v s w)
 intro w0 hK
 have P0 := Lib.hid h
 have K0 := Lib.hid hK
 clear h hK
 have Hc := Lib.hid hc
 clear hc
 have Hsy := Lib.hid hsy
 clear hsy
 have Hsx := Lib.hid hsx
 clear hsx
 have Hbk := Lib.hid hbk
 clear hbk
 have Hfi := Lib.hid hfi
 clear hfi
 have Hse := Lib.hid hse
 clear hse
 have Hwy := Lib.hid hwy
 clear hwy
 have Hwx := Lib.hid hwx
 clear hwx
 have How := Lib.hid how
 clear how
 have Hd := Lib.hid hd
 clear hd
 have HZ := Lib.hid hz
 clear hz
 have HD := Lib.hid hD
 clear hD
 have hw : IntKind.i64.wrap (d + 1) = D := by rw [IntKind.wrap_i64]; have := HD.out; omega
 have B_ := Lib.hid B
 clear B
 have hL_ := Lib.hid hL
 clear hL
 have hs_ := Lib.hid hs
 clear hs
 have hU_ := Lib.hid hU
 clear hU
 have hQ_ := Lib.hid hQ
 clear hQ
 have okU_ := Lib.hid okU
 clear okU
 have HS_ := Lib.hid HS
 clear HS
 have n2 : (n : Int) < 144 := by omega
 have hnot : ∀ (x : Bool) (w : World), (Op.unary .not (.bool x)).run Try.prog w = .ok (.bool (!x)) w := fun _ _ => rfl
 go_enter Try.func29, Try.ntmps29
 go_wp2_with (fail)
 with_reducible refine (ron_c r v s m c Hc.out c0 c1 true HZ.out _ P0.out).mono ?_
 rintro q_ w' ⟨rfl, rfl⟩
 obtain ⟨hc, hf⟩ := P0.out.R.out
 have e_d := rc_i v s (m) 15 d (by decide) (by decide) (Hd.out)
 go_wp2_with (refine store_ri P0.out.R rfl _ _ rfl _ rfl _ rfl (by omega) (by omega) ?_)
 intro u1 hP hk
 clear hc hf e_d
 replace hP : Has u1 r (encR v s (upd m 8363 D)) := hP
 have P1 := Lib.hid (P0.out.setR 8363 (D) (by omega) hP hk)
 have K1 := Lib.hid (K0.out.trans (Keep3.ofR hk))
 clear hP hk P0 K0
 try simp only [Act.put]
 have VM : vid (upd m 8363 D) = vid m := vid_far m 8363 D (by omega)
 have OM : oam (upd m 8363 D) = oam m := oam_far m 8363 D (by omega)
 have BB := Lib.hid (show ∀ o, o < 31407 → o ≠ 8365 → 0 ≤ (upd m 8363 D) o ∧ (upd m 8363 D) o < 256 from fun o h1 h2 => by
  by_cases q : o = 8363
  ·subst q; rw [upd_same]; have := HD.out; omega
  ·rw [upd_ne _ _ _ _ q]; exact B_.out o h1 h2)
 have HLN := Lib.hid (show ∀ W, RU W r v s (upd m 8363 D) → Calls Try.prog 49 #[.agg #[.int .u8 c, .int .u8 sx, .int .u8 sy, .int .u8 wx, .int .u8 wy], .slice (some ⟨v, 0, none⟩) 8192 8192, .int .i64 (n : Int), .int .i64 ow] W fun q_ w' => q_ = .returned (.agg (enc U)) ∧ Below W.heap.size W w' from fun W hM => by
  have mv := mem_rv hM.V BB.out
  rw [VM] at mv
  have q := rline_c c sx sy wx wy c0 c1 sx0 sx1 sy0 sy1 wx0 wx1 wy0 wy1 _ _ (n : Int) ow (by omega) (by omega) (by omega) (by omega) W mv
  rw [hU_.out] at q
  exact q)
 have HLK := Lib.hid (show ∀ W, RU W r v s (upd m 8363 D) → Calls Try.prog 48 #[.agg #[.int .u8 c, .int .u8 bk, .int .u8 fi, .int .u8 se], .slice (some ⟨v, 0, none⟩) 8192 8192, .slice (some ⟨s, 0, none⟩) 160 160, .int .i64 (n : Int), .agg (enc U)] W fun q_ w' => q_ = .returned (.agg (enc Q)) ∧ Below W.heap.size W w' from fun W hM => by
  have mv := mem_rv hM.V BB.out
  have ms := mem_rs hM.S BB.out
  rw [VM] at mv
  rw [OM] at ms
  have q := liner_c c bk fi se c0 c1 bk0 bk1 fi0 fi1 se0 se1 _ _ _ _ U okU_.out (n : Int) (by omega) (by omega) W mv ms
  rw [hQ_.out] at q
  exact q)
 have HSE := Lib.hid (show ∀ W, Calls Try.prog 50 #[.agg #[.int .u8 c, .int .u8 sx, .int .u8 sy, .int .u8 wx, .int .u8 wy], .int .i64 (n : Int)] W fun q_ w' => q_ = .returned (.bool true) ∧ Below W.heap.size W w' from fun W => by
  have q := seen_c c sx sy wx wy c0 c1 sx0 sx1 sy0 sy1 wx0 wx1 wy0 wy1 (n : Int) (by omega) (by omega) W
  rw [show (decide (bit c 0 = 1) && reachV c wx wy (n : Int)) = true from hs_.out] at q
  exact q)
 clear VM OM
 obtain ⟨hc, hf⟩ := P1.out.R.out
 have e_d := rc_i v s (upd m 8363 D) 15 D (by decide) (by decide) (upd_same _ _ _)
 have e_L := rc_i v s (upd m 8363 D) 14 (n : Int) (by decide) (by decide) (hL_.out)
 go_upto_region 6 with (fail)
 clear hc hf e_d e_L
 go_upto_region 6 with (fail)
 have P2 := Lib.hid P1.out.drew
 have K2 := Lib.hid (K1.out.drew)
 clear P1 K1
 have e_c := rc_u v s (upd m 8363 D) 2 c (by decide) (by decide) (by decide) (by decide) (Hc.out)
 have e_sx := rc_u v s (upd m 8363 D) 5 sx (by decide) (by decide) (by decide) (by decide) (Hsx.out)
 have e_sy := rc_u v s (upd m 8363 D) 4 sy (by decide) (by decide) (by decide) (by decide) (Hsy.out)
 have e_wx := rc_u v s (upd m 8363 D) 13 wx (by decide) (by decide) (by decide) (by decide) (Hwx.out)
 have e_wy := rc_u v s (upd m 8363 D) 12 wy (by decide) (by decide) (by decide) (by decide) (Hwy.out)
 refine wp_region_held_drew (S := (fun w' => (∀ o, w'.cell? ⟨r, o, none⟩ = (encR v s (upd m 8363 D))[o]?))) (by kernel_rfl) P2.out.R.2.1 (fun hHeld => ?_)
 generalize World.drew _ = u2 at hHeld P2 K2 ⊢
 refine tzz 0 ?_
 refine tzz 1 ?_
 refine tzz 2 ?_
 refine tzz 3 ?_
 refine tzz 4 ?_
 refine tzz 5 ?_
 refine tzz 6 ?_
 refine tzz 7 ?_
 refine tzz 8 ?_
 refine tzz 9 ?_
 refine tzz 10 ?_
 refine tzz 11 ?_
 refine tzz 12 ?_
 refine tzz 13 ?_
 refine tzz 14 ?_
 refine tzz 15 ?_
 refine tzz 16 ?_
 refine tzz 17 ?_
 refine tzz 18 ?_
 refine tzz 19 ?_
 refine tzz 20 ?_
 refine tzz 21 ?_
 refine tzz 22 ?_
 refine tzz 23 ?_
 refine tzz 24 ?_
 refine tzz 25 ?_
 refine wpAnyH_ready (rs := [26]) (by kernel_rfl) (by simp) ?_
 refine (acc rfl (fun K hK => ?_) AllReadyH.nil)
 ·skip
  go_simp
  have Q_ := own1 u2 (.cells #[.int .u8 0, .int .u8 0, .int .u8 0, .int .u8 0, .int .u8 0] 72)
  have P3 := Lib.hid (P2.out.below Q_)
  have K3 := Lib.hid (K2.out.trans (Keep3.of_below Q_))
  have X3 := Lib.hid (Has.new u2 #[.int .u8 0, .int .u8 0, .int .u8 0, .int .u8 0, .int .u8 0] 72)
  have LX := Lib.hid (K2.out.size)
  have NRX := Lib.hid (Nat.ne_of_lt P2.out.R.1)
  have NVX := Lib.hid (Nat.ne_of_lt P2.out.V.1)
  have NSX := Lib.hid (Nat.ne_of_lt P2.out.S.1)
  clear Q_
  clear P2 K2
  generalize u2.alloc (.cells #[.int .u8 0, .int .u8 0, .int .u8 0, .int .u8 0, .int .u8 0] 72) = u3 at P3 K3 X3 ⊢
  generalize u2.heap.size = xb at X3 LX NRX NVX NSX ⊢
  refine hK.out _ _ ?s27 (fun hNew => ?r27)
  case s27 => exact P3.out.R.2.1
  clear hK K hHeld
  have hHeld := hNew
  clear hNew
  refine wpAnyH_ready (rs := [27]) (by kernel_rfl) (by simp) ?_
  refine (acc rfl (fun K hK => ?_) AllReadyH.nil)
  ·skip
   refine wp_store_g r72 X3.out rfl #[.int .u8 c, .int .u8 sx, .int .u8 sy, .int .u8 wx, .int .u8 wy] rfl (five_one _ _ _ _ _) _ _ rfl rfl rfl ?_
   intro u4 hP hk
   try simp only [Act.put, qqA, qqB, qqC]
   have X4 := Lib.hid hP
   have K4 := Lib.hid (K3.out.new LX.out hk)
   have P4 := Lib.hid (P3.out.other hk (Ne.symm NRX.out) (Ne.symm NVX.out) (Ne.symm NSX.out))
   clear hP hk
   clear P3 K3 X3
   refine hK.out _ _ ?s28 (fun hNew => ?r28)
   case s28 => exact P4.out.R.2.1
   clear hK K hHeld
   have hHeld := hNew
   clear hNew
   refine wpAnyH_done (by kernel_rfl) ?_ _
   clear hHeld
   clear e_c e_sx e_sy e_wx e_wy
   go_upto_region 7 with (fail)
   have P5 := Lib.hid P4.out.drew
   have X5 := Lib.hid X4.out.drew
   have K5 := Lib.hid (K4.out.drew)
   clear P4 K4 X4
   have e_c := rc_u v s (upd m 8363 D) 2 c (by decide) (by decide) (by decide) (by decide) (Hc.out)
   have e_bk := rc_u v s (upd m 8363 D) 9 bk (by decide) (by decide) (by decide) (by decide) (Hbk.out)
   have e_fi := rc_u v s (upd m 8363 D) 10 fi (by decide) (by decide) (by decide) (by decide) (Hfi.out)
   have e_se := rc_u v s (upd m 8363 D) 11 se (by decide) (by decide) (by decide) (by decide) (Hse.out)
   refine wp_region_held_drew (S := (fun w' => (∀ o, w'.cell? ⟨r, o, none⟩ = (encR v s (upd m 8363 D))[o]?))) (by kernel_rfl) P5.out.R.2.1 (fun hHeld => ?_)
   generalize World.drew _ = u5 at hHeld P5 K5 X5 ⊢
   refine tzz 0 ?_
   refine tzz 1 ?_
   refine tzz 2 ?_
   refine tzz 3 ?_
   refine tzz 4 ?_
   refine tzz 5 ?_
   refine tzz 6 ?_
   refine tzz 7 ?_
   refine tzz 8 ?_
   refine tzz 9 ?_
   refine tzz 10 ?_
   refine tzz 11 ?_
   refine tzz 12 ?_
   refine tzz 13 ?_
   refine tzz 14 ?_
   refine tzz 15 ?_
   refine tzz 16 ?_
   refine tzz 17 ?_
   refine tzz 18 ?_
   refine tzz 19 ?_
   refine tzz 20 ?_
   refine wpAnyH_ready (rs := [21]) (by kernel_rfl) (by simp) ?_
   refine (acc rfl (fun K hK => ?_) AllReadyH.nil)
   ·skip
    go_simp
    have Q_ := own1 u5 (.cells #[.int .u8 0, .int .u8 0, .int .u8 0, .int .u8 0] 74)
    have P6 := Lib.hid (P5.out.below Q_)
    have K6 := Lib.hid (K5.out.trans (Keep3.of_below Q_))
    have X6 := Lib.hid (X5.out.below Q_)
    have Y6 := Lib.hid (Has.new u5 #[.int .u8 0, .int .u8 0, .int .u8 0, .int .u8 0] 74)
    have LY := Lib.hid (K5.out.size)
    have NRY := Lib.hid (Nat.ne_of_lt P5.out.R.1)
    have NVY := Lib.hid (Nat.ne_of_lt P5.out.V.1)
    have NSY := Lib.hid (Nat.ne_of_lt P5.out.S.1)
    have NXY := Lib.hid (Nat.ne_of_lt X5.out.1)
    clear Q_
    clear P5 K5 X5
    generalize u5.alloc (.cells #[.int .u8 0, .int .u8 0, .int .u8 0, .int .u8 0] 74) = u6 at P6 K6 X6 Y6 ⊢
    generalize u5.heap.size = yb at Y6 LY NRY NVY NSY NXY ⊢
    refine hK.out _ _ ?s50 (fun hNew => ?r50)
    case s50 => exact P6.out.R.2.1
    clear hK K hHeld
    have hHeld := hNew
    clear hNew
    refine wpAnyH_ready (rs := [22]) (by kernel_rfl) (by simp) ?_
    refine (acc rfl (fun K hK => ?_) AllReadyH.nil)
    ·skip
     refine wp_store_g r24 Y6.out rfl #[.int .u8 c, .int .u8 bk, .int .u8 fi, .int .u8 se] rfl (four_one _ _ _ _) _ _ rfl rfl rfl ?_
     intro u7 hP hk
     try simp only [Act.put, qqA, qqB, qqC]
     have Y7 := Lib.hid hP
     have K7 := Lib.hid (K6.out.new LY.out hk)
     have P7 := Lib.hid (P6.out.other hk (Ne.symm NRY.out) (Ne.symm NVY.out) (Ne.symm NSY.out))
     have X7 := Lib.hid (hk.has NXY.out X6.out)
     clear hP hk
     clear P6 K6 X6 Y6
     refine hK.out _ _ ?s51 (fun hNew => ?r51)
     case s51 => exact P7.out.R.2.1
     clear hK K hHeld
     have hHeld := hNew
     clear hNew
     refine wpAnyH_done (by kernel_rfl) ?_ _
     clear hHeld
     clear e_c e_bk e_fi e_se
     go_upto_region 8 with (fail)
     have P8 := Lib.hid P7.out.drew
     have X8 := Lib.hid X7.out.drew
     have Y8 := Lib.hid Y7.out.drew
     have K8 := Lib.hid (K7.out.drew)
     clear P7 K7 X7 Y7
     refine wp_region_held_drew (S := (fun w' => w'.cell? ⟨r, 0, none⟩ = some (.slice (some ⟨v, 0, none⟩) 8192 8192) ∧ w'.cell? ⟨r, 1, none⟩ = some (.slice (some ⟨s, 0, none⟩) 160 160) ∧ w'.cell? ⟨r, 14, none⟩ = some (.int .i64 (n : Int)) ∧ w'.cell? ⟨r, 16, none⟩ = some (.int .i64 ow) ∧ w'.rangeAt xb 0 (#[.int .u8 c, .int .u8 sx, .int .u8 sy, .int .u8 wx, .int .u8 wy] : Array Value).toList ∧ w'.rangeAt yb 0 (#[.int .u8 c, .int .u8 bk, .int .u8 fi, .int .u8 se] : Array Value).toList)) (by kernel_rfl) ⟨(P8.out.R.2.1 0).trans (encR_V _ _ _), (P8.out.R.2.1 1).trans (encR_S _ _ _), (by first | exact (P8.out.R.2.1 14).trans (rc_i v s (upd m 8363 D) 14 (n : Int) (by decide) (by decide) hL_.out) | exact (P8.out.R.2.1 14).trans (rc_i v s _ 14 (n : Int) (by decide) (by decide) ((row_out _ _ _ _ 8356 (by omega)).trans hL_.out))), (by first | exact (P8.out.R.2.1 16).trans (rc_i v s (upd m 8363 D) 16 ow (by decide) (by decide) How.out) | exact (P8.out.R.2.1 16).trans (rc_i v s _ 16 ow (by decide) (by decide) ((row_out _ _ _ _ 8364 (by omega)).trans How.out))), range_of_has X8.out, range_of_has Y8.out⟩ (fun hHeld => ?_)
     generalize World.drew _ = u8 at hHeld P8 K8 X8 Y8 ⊢
     refine tzz 0 ?_
     refine tzz 1 ?_
     refine tzz 2 ?_
     refine tzz 3 ?_
     refine tzz 4 ?_
     refine wpAnyH_take (i := 5) (oi := ⟨_, _, _, _, _, _⟩) (v := .agg #[.int .u8 c, .int .u8 bk, .int .u8 fi, .int .u8 se]) rfl (by kernel_rfl) (by kernel_rfl) (by kernel_rfl) (fun _ _ _ h => h) (yields_load r24 #[.int .u8 c, .int .u8 bk, .int .u8 fi, .int .u8 se] rfl yb (fun w hw => hw.2.2.2.2.2) (by rfl) _ rfl rfl) (by assumption) ?_
     try simp only [Act.put, qqA, qqB, qqC]
     refine tzz 6 ?_
     refine tzz 7 ?_
     refine tzz 8 ?_
     refine tzz 9 ?_
     refine tzz 10 ?_
     refine tzz 11 ?_
     refine tzz 12 ?_
     refine tzz 13 ?_
     refine tzz 14 ?_
     refine tzz 15 ?_
     refine tzz 16 ?_
     refine tzz 17 ?_
     refine wpAnyH_take (i := 18) (oi := ⟨_, _, _, _, _, _⟩) (v := .agg #[.int .u8 c, .int .u8 sx, .int .u8 sy, .int .u8 wx, .int .u8 wy]) rfl (by kernel_rfl) (by kernel_rfl) (by kernel_rfl) (fun _ _ _ h => h) (yields_load r72 #[.int .u8 c, .int .u8 sx, .int .u8 sy, .int .u8 wx, .int .u8 wy] rfl xb (fun w hw => hw.2.2.2.2.1) (by rfl) _ rfl rfl) (by assumption) ?_
     try simp only [Act.put, qqA, qqB, qqC]
     refine tzz 19 ?_
     refine tzz 20 ?_
     refine tzz 21 ?_
     refine tzz 22 ?_
     refine tzz 23 ?_
     refine tzz 24 ?_
     refine tzz 25 ?_
     refine tzz 26 ?_
     refine tzz 27 ?_
     refine tzz 28 ?_
     refine tzz 29 ?_
     refine tzz 30 ?_
     refine tzz 33 ?_
     refine tzz 34 ?_
     refine wpAnyH_ready (rs := [31]) (by kernel_rfl) (by simp) ?_
     refine (acc rfl (fun K hK => ?_) AllReadyH.nil)
     ·skip
      go_simp
      with_reducible refine ((HLN.out _ P8.out)).mono ?_
      rintro q_ u9 ⟨rfl, hb⟩
      have P9 := Lib.hid (P8.out.below hb)
      have K9 := Lib.hid (K8.out.trans (Keep3.of_below hb))
      have X9 := Lib.hid (X8.out.below hb)
      have Y9 := Lib.hid (Y8.out.below hb)
      clear hb
      clear P8 K8 X8 Y8
      refine hK.out _ _ ?s85 (fun hNew => ?r85)
      case s85 => exact ⟨(P9.out.R.2.1 0).trans (encR_V _ _ _), (P9.out.R.2.1 1).trans (encR_S _ _ _), (by first | exact (P9.out.R.2.1 14).trans (rc_i v s (upd m 8363 D) 14 (n : Int) (by decide) (by decide) hL_.out) | exact (P9.out.R.2.1 14).trans (rc_i v s _ 14 (n : Int) (by decide) (by decide) ((row_out _ _ _ _ 8356 (by omega)).trans hL_.out))), (by first | exact (P9.out.R.2.1 16).trans (rc_i v s (upd m 8363 D) 16 ow (by decide) (by decide) How.out) | exact (P9.out.R.2.1 16).trans (rc_i v s _ 16 ow (by decide) (by decide) ((row_out _ _ _ _ 8364 (by omega)).trans How.out))), range_of_has X9.out, range_of_has Y9.out⟩
      clear hK K hHeld
      have hHeld := hNew
      clear hNew
      refine wpAnyH_ready (rs := [32]) (by kernel_rfl) (by simp) ?_
      refine (acc rfl (fun K hK => ?_) AllReadyH.nil)
      ·skip
       go_simp
       with_reducible refine ((HLK.out _ P9.out)).mono ?_
       rintro q_ u10 ⟨rfl, hb⟩
       have P10 := Lib.hid (P9.out.below hb)
       have K10 := Lib.hid (K9.out.trans (Keep3.of_below hb))
       have X10 := Lib.hid (X9.out.below hb)
       have Y10 := Lib.hid (Y9.out.below hb)
       clear hb
       clear P9 K9 X9 Y9
       refine hK.out _ _ ?s86 (fun hNew => ?r86)
       case s86 => exact ⟨(P10.out.R.2.1 0).trans (encR_V _ _ _), (P10.out.R.2.1 1).trans (encR_S _ _ _), (by first | exact (P10.out.R.2.1 14).trans (rc_i v s (upd m 8363 D) 14 (n : Int) (by decide) (by decide) hL_.out) | exact (P10.out.R.2.1 14).trans (rc_i v s _ 14 (n : Int) (by decide) (by decide) ((row_out _ _ _ _ 8356 (by omega)).trans hL_.out))), (by first | exact (P10.out.R.2.1 16).trans (rc_i v s (upd m 8363 D) 16 ow (by decide) (by decide) How.out) | exact (P10.out.R.2.1 16).trans (rc_i v s _ 16 ow (by decide) (by decide) ((row_out _ _ _ _ 8364 (by omega)).trans How.out))), range_of_has X10.out, range_of_has Y10.out⟩
       clear hK K hHeld
       have hHeld := hNew
       clear hNew
       refine tzz 35 ?_
       refine wpAnyH_ready (rs := [36]) (by kernel_rfl) (by simp) ?_
       refine (acc rfl (fun K hK => ?_) AllReadyH.nil)
       ·skip
        refine wp_store_rrow P10.out.R Q _ _ rfl (19 + n * 160) rfl rfl (by omega) (by omega) ?_
        intro u11 hP hk
        try simp only [Act.put, qqA, qqB, qqC]
        have P11 := Lib.hid (P10.out.setRow (8348 + (19 + n * 160)) Q (by omega) hP hk)
        have K11 := Lib.hid (K10.out.trans (Keep3.ofR hk))
        have X11 := Lib.hid (hk.has (Ne.symm NRX.out) X10.out)
        have Y11 := Lib.hid (hk.has (Ne.symm NRY.out) Y10.out)
        clear hP hk
        clear P10 K10 X10 Y10
        refine hK.out _ _ ?s88 (fun hNew => ?r88)
        case s88 => exact ⟨(P11.out.R.2.1 0).trans (encR_V _ _ _), (P11.out.R.2.1 1).trans (encR_S _ _ _), (by first | exact (P11.out.R.2.1 14).trans (rc_i v s (upd m 8363 D) 14 (n : Int) (by decide) (by decide) hL_.out) | exact (P11.out.R.2.1 14).trans (rc_i v s _ 14 (n : Int) (by decide) (by decide) ((row_out _ _ _ _ 8356 (by omega)).trans hL_.out))), (by first | exact (P11.out.R.2.1 16).trans (rc_i v s (upd m 8363 D) 16 ow (by decide) (by decide) How.out) | exact (P11.out.R.2.1 16).trans (rc_i v s _ 16 ow (by decide) (by decide) ((row_out _ _ _ _ 8364 (by omega)).trans How.out))), range_of_has X11.out, range_of_has Y11.out⟩
        clear hK K hHeld
        have hHeld := hNew
        clear hNew
        refine wpAnyH_done (by kernel_rfl) ?_ _
        clear hHeld
        go_upto_region 9 with (fail)
        have P12 := Lib.hid P11.out.drew
        have X12 := Lib.hid X11.out.drew
        have Y12 := Lib.hid Y11.out.drew
        have K12 := Lib.hid (K11.out.drew)
        clear P11 K11 X11 Y11
        refine wp_region_held_drew (S := (fun w' => w'.cell? ⟨r, 14, none⟩ = some (.int .i64 (n : Int)) ∧ w'.rangeAt xb 0 (#[.int .u8 c, .int .u8 sx, .int .u8 sy, .int .u8 wx, .int .u8 wy] : Array Value).toList)) (by kernel_rfl) ⟨((P12.out.R.2.1 14).trans (rc_i v s _ 14 (n : Int) (by decide) (by decide) ((row_out _ _ _ _ 8356 (by omega)).trans hL_.out))), range_of_has X12.out⟩ (fun hHeld => ?_)
        generalize World.drew _ = u12 at hHeld P12 K12 X12 Y12 ⊢
        refine wpAnyH_take (i := 0) (oi := ⟨_, _, _, _, _, _⟩) (v := .agg #[.int .u8 c, .int .u8 sx, .int .u8 sy, .int .u8 wx, .int .u8 wy]) rfl (by kernel_rfl) (by kernel_rfl) (by kernel_rfl) (fun _ _ _ h => h) (yields_load r72 #[.int .u8 c, .int .u8 sx, .int .u8 sy, .int .u8 wx, .int .u8 wy] rfl xb (fun w hw => hw.2) (by rfl) _ rfl rfl) (by assumption) ?_
        try simp only [Act.put, qqA, qqB, qqC]
        refine tzz 1 ?_
        refine tzz 2 ?_
        refine tzz 3 ?_
        refine tzz 4 ?_
        refine wpAnyH_ready (rs := [5]) (by kernel_rfl) (by simp) ?_
        refine (acc rfl (fun K hK => ?_) AllReadyH.nil)
        ·skip
         go_simp
         with_reducible refine ((HSE.out _)).mono ?_
         rintro q_ u13 ⟨rfl, hb⟩
         have P13 := Lib.hid (P12.out.below hb)
         have K13 := Lib.hid (K12.out.trans (Keep3.of_below hb))
         have X13 := Lib.hid (X12.out.below hb)
         have Y13 := Lib.hid (Y12.out.below hb)
         clear hb
         clear P12 K12 X12 Y12
         refine hK.out _ _ ?s94 (fun hNew => ?r94)
         case s94 => exact ⟨((P13.out.R.2.1 14).trans (rc_i v s _ 14 (n : Int) (by decide) (by decide) ((row_out _ _ _ _ 8356 (by omega)).trans hL_.out))), range_of_has X13.out⟩
         clear hK K hHeld
         have hHeld := hNew
         clear hNew
         refine wpAnyH_done (by kernel_rfl) ?_ _
         clear hHeld
         obtain ⟨hc, hf⟩ := P13.out.R.out
         have e_ow := rc_i v s (row (upd m 8363 D) (8348 + (19 + n * 160)) 160 Q) 16 ow (by decide) (by decide) ((row_out _ _ _ _ 8364 (by omega)).trans How.out)
         have hw9 : IntKind.i64.wrap (ow + 1) = ow + 1 := by rw [IntKind.wrap_i64]; omega
         go_wp2_with (refine store_ri P13.out.R rfl _ _ rfl _ rfl _ rfl (by omega) (by omega) ?_)
         intro u14 hP hk
         clear hc hf e_ow
         replace hP : Has u14 r (encR v s (upd (row (upd m 8363 D) (8348 + (19 + n * 160)) 160 Q) 8364 (ow + 1))) := hP
         have P14 := Lib.hid (P13.out.setR 8364 (ow + 1) (by omega) hP hk)
         have K14 := Lib.hid (K13.out.trans (Keep3.ofR hk))
         clear hP hk P13 K13
         try simp only [Act.put]
         obtain ⟨hc, hf⟩ := P14.out.R.out
         have e_d := rc_i v s (upd (row (upd m 8363 D) (8348 + (19 + n * 160)) 160 Q) 8364 (ow + 1)) 15 D (by decide) (by decide) (show (upd (row (upd m 8363 D) (8348 + (19 + n * 160)) 160 Q) 8364 (ow + 1)) 8363 = D from (upd_ne _ _ _ _ (by decide)).trans ((row_out _ _ _ _ 8363 (by omega)).trans (upd_same _ _ _)))
         go_wp2_with (fail)
         with_reducible refine (HS_.out _ P14.out).mono ?_
         rintro q_ u15 ⟨rfl, hP, hk⟩
         have P15 := Lib.hid hP
         have K15 := Lib.hid (K14.out.trans hk)
         clear hP hk P14 K14
         clear hc hf e_d
         go_wp2
         all_goals first | exact bodyPost_ret (v := .int .u8 rr) (by simp [results, Try.results29, go_sem]) rfl ⟨rfl, P15.out, K15.out⟩ | exact bodyPost_end (v := .int .u8 rr) (by simp [results, Try.results29, go_sem]) rfl ⟨rfl, P15.out, K15.out⟩
set_option maxHeartbeats 16000000 in
theorem rtick_Af (r v s : Nat) (m : M) (c : Int) (hc : m 8352 = c) (c0 : 0 ≤ c) (c1 : c < 256) (sy : Int) (hsy : m 8354 = sy) (sy0 : 0 ≤ sy) (sy1 : sy < 256) (sx : Int) (hsx : m 8355 = sx) (sx0 : 0 ≤ sx) (sx1 : sx < 256) (bk : Int) (hbk : m 8358 = bk) (bk0 : 0 ≤ bk) (bk1 : bk < 256) (fi : Int) (hfi : m 8359 = fi) (fi0 : 0 ≤ fi) (fi1 : fi < 256) (se : Int) (hse : m 8360 = se) (se0 : 0 ≤ se) (se1 : se < 256) (wy : Int) (hwy : m 8361 = wy) (wy0 : 0 ≤ wy) (wy1 : wy < 256) (wx : Int) (hwx : m 8362 = wx) (wx0 : 0 ≤ wx) (wx1 : wx < 256) (ow : Int) (how : m 8364 = ow) (ow0 : 0 ≤ ow) (ow1 : ow < 256) (d : Int) (hd : m 8363 = d) (d0 : 0 ≤ d) (d1 : d < 256)  (hz : decide (128 ≤ c) = true) (D : Int) (hD : d + 1 = D) (hD2 : D < 256) (h63 : (D == 63) = true) (h114 : (D == 114) = false) (B : ∀ o, o < 31407 → o ≠ 8365 → 0 ≤ m o ∧ m o < 256) (n : Nat) (hL : m 8356 = n) (n1 : n < 144) (hs : seenV c wx wy n = false) (U : M) (hU : lineE (vid m) c sx sy wx wy n ow = U) (Q : M) (hQ : firstN (outV c bk fi se (vid m) (oam m) n U) 160 = Q) (okU : okB U) (m4 : M) (rr : Int) (hr : IntKind.u8.wrap rr = rr) (HS : ∀ W, RU W r v s (row (upd m 8363 D) (8348 + (19 + n * 160)) 160 Q) → Calls Try.prog 51 #[.pointer (some ⟨r, 0, none⟩)] W fun q_ w' => q_ = .returned (.int .u8 rr) ∧ RU w' r v s m4 ∧ Keep3 r v s W w') (w : World) (h : RU w r v s m) : Calls Try.prog 29 #[.pointer (some ⟨r, 0, none⟩)] w fun q_ w' => q_ = .returned (.int .u8 rr) ∧ RU w' r v s (m4) ∧ Keep3 r v s w w' := by
 suffices hall : ∀ w0 : World, Keep3 r v s w0 w → Calls Try.prog 29 #[.pointer (some ⟨r, 0, none⟩)] w fun q_ w' => q_ = .returned (.int .u8 rr) ∧ RU w' r v s (m4) ∧ Keep3 r v s w0 w' from hall w (Keep3.refl r v s w)
 intro w0 hK
 have P0 := Lib.hid h
 have K0 := Lib.hid hK
 clear h hK
 have Hc := Lib.hid hc
 clear hc
 have Hsy := Lib.hid hsy
 clear hsy
 have Hsx := Lib.hid hsx
 clear hsx
 have Hbk := Lib.hid hbk
 clear hbk
 have Hfi := Lib.hid hfi
 clear hfi
 have Hse := Lib.hid hse
 clear hse
 have Hwy := Lib.hid hwy
 clear hwy
 have Hwx := Lib.hid hwx
 clear hwx
 have How := Lib.hid how
 clear how
 have Hd := Lib.hid hd
 clear hd
 have HZ := Lib.hid hz
 clear hz
 have HD := Lib.hid hD
 clear hD
 have hw : IntKind.i64.wrap (d + 1) = D := by rw [IntKind.wrap_i64]; have := HD.out; omega
 have B_ := Lib.hid B
 clear B
 have hL_ := Lib.hid hL
 clear hL
 have hs_ := Lib.hid hs
 clear hs
 have hU_ := Lib.hid hU
 clear hU
 have hQ_ := Lib.hid hQ
 clear hQ
 have okU_ := Lib.hid okU
 clear okU
 have HS_ := Lib.hid HS
 clear HS
 have n2 : (n : Int) < 144 := by omega
 have hnot : ∀ (x : Bool) (w : World), (Op.unary .not (.bool x)).run Try.prog w = .ok (.bool (!x)) w := fun _ _ => rfl
 go_enter Try.func29, Try.ntmps29
 go_wp2_with (fail)
 with_reducible refine (ron_c r v s m c Hc.out c0 c1 true HZ.out _ P0.out).mono ?_
 rintro q_ w' ⟨rfl, rfl⟩
 obtain ⟨hc, hf⟩ := P0.out.R.out
 have e_d := rc_i v s (m) 15 d (by decide) (by decide) (Hd.out)
 go_wp2_with (refine store_ri P0.out.R rfl _ _ rfl _ rfl _ rfl (by omega) (by omega) ?_)
 intro u1 hP hk
 clear hc hf e_d
 replace hP : Has u1 r (encR v s (upd m 8363 D)) := hP
 have P1 := Lib.hid (P0.out.setR 8363 (D) (by omega) hP hk)
 have K1 := Lib.hid (K0.out.trans (Keep3.ofR hk))
 clear hP hk P0 K0
 try simp only [Act.put]
 have VM : vid (upd m 8363 D) = vid m := vid_far m 8363 D (by omega)
 have OM : oam (upd m 8363 D) = oam m := oam_far m 8363 D (by omega)
 have BB := Lib.hid (show ∀ o, o < 31407 → o ≠ 8365 → 0 ≤ (upd m 8363 D) o ∧ (upd m 8363 D) o < 256 from fun o h1 h2 => by
  by_cases q : o = 8363
  ·subst q; rw [upd_same]; have := HD.out; omega
  ·rw [upd_ne _ _ _ _ q]; exact B_.out o h1 h2)
 have HLN := Lib.hid (show ∀ W, RU W r v s (upd m 8363 D) → Calls Try.prog 49 #[.agg #[.int .u8 c, .int .u8 sx, .int .u8 sy, .int .u8 wx, .int .u8 wy], .slice (some ⟨v, 0, none⟩) 8192 8192, .int .i64 (n : Int), .int .i64 ow] W fun q_ w' => q_ = .returned (.agg (enc U)) ∧ Below W.heap.size W w' from fun W hM => by
  have mv := mem_rv hM.V BB.out
  rw [VM] at mv
  have q := rline_c c sx sy wx wy c0 c1 sx0 sx1 sy0 sy1 wx0 wx1 wy0 wy1 _ _ (n : Int) ow (by omega) (by omega) (by omega) (by omega) W mv
  rw [hU_.out] at q
  exact q)
 have HLK := Lib.hid (show ∀ W, RU W r v s (upd m 8363 D) → Calls Try.prog 48 #[.agg #[.int .u8 c, .int .u8 bk, .int .u8 fi, .int .u8 se], .slice (some ⟨v, 0, none⟩) 8192 8192, .slice (some ⟨s, 0, none⟩) 160 160, .int .i64 (n : Int), .agg (enc U)] W fun q_ w' => q_ = .returned (.agg (enc Q)) ∧ Below W.heap.size W w' from fun W hM => by
  have mv := mem_rv hM.V BB.out
  have ms := mem_rs hM.S BB.out
  rw [VM] at mv
  rw [OM] at ms
  have q := liner_c c bk fi se c0 c1 bk0 bk1 fi0 fi1 se0 se1 _ _ _ _ U okU_.out (n : Int) (by omega) (by omega) W mv ms
  rw [hQ_.out] at q
  exact q)
 have HSE := Lib.hid (show ∀ W, Calls Try.prog 50 #[.agg #[.int .u8 c, .int .u8 sx, .int .u8 sy, .int .u8 wx, .int .u8 wy], .int .i64 (n : Int)] W fun q_ w' => q_ = .returned (.bool false) ∧ Below W.heap.size W w' from fun W => by
  have q := seen_c c sx sy wx wy c0 c1 sx0 sx1 sy0 sy1 wx0 wx1 wy0 wy1 (n : Int) (by omega) (by omega) W
  rw [show (decide (bit c 0 = 1) && reachV c wx wy (n : Int)) = false from hs_.out] at q
  exact q)
 clear VM OM
 obtain ⟨hc, hf⟩ := P1.out.R.out
 have e_d := rc_i v s (upd m 8363 D) 15 D (by decide) (by decide) (upd_same _ _ _)
 have e_L := rc_i v s (upd m 8363 D) 14 (n : Int) (by decide) (by decide) (hL_.out)
 go_upto_region 6 with (fail)
 clear hc hf e_d e_L
 go_upto_region 6 with (fail)
 have P2 := Lib.hid P1.out.drew
 have K2 := Lib.hid (K1.out.drew)
 clear P1 K1
 have e_c := rc_u v s (upd m 8363 D) 2 c (by decide) (by decide) (by decide) (by decide) (Hc.out)
 have e_sx := rc_u v s (upd m 8363 D) 5 sx (by decide) (by decide) (by decide) (by decide) (Hsx.out)
 have e_sy := rc_u v s (upd m 8363 D) 4 sy (by decide) (by decide) (by decide) (by decide) (Hsy.out)
 have e_wx := rc_u v s (upd m 8363 D) 13 wx (by decide) (by decide) (by decide) (by decide) (Hwx.out)
 have e_wy := rc_u v s (upd m 8363 D) 12 wy (by decide) (by decide) (by decide) (by decide) (Hwy.out)
 refine wp_region_held_drew (S := (fun w' => (∀ o, w'.cell? ⟨r, o, none⟩ = (encR v s (upd m 8363 D))[o]?))) (by kernel_rfl) P2.out.R.2.1 (fun hHeld => ?_)
 generalize World.drew _ = u2 at hHeld P2 K2 ⊢
 refine tzz 0 ?_
 refine tzz 1 ?_
 refine tzz 2 ?_
 refine tzz 3 ?_
 refine tzz 4 ?_
 refine tzz 5 ?_
 refine tzz 6 ?_
 refine tzz 7 ?_
 refine tzz 8 ?_
 refine tzz 9 ?_
 refine tzz 10 ?_
 refine tzz 11 ?_
 refine tzz 12 ?_
 refine tzz 13 ?_
 refine tzz 14 ?_
 refine tzz 15 ?_
 refine tzz 16 ?_
 refine tzz 17 ?_
 refine tzz 18 ?_
 refine tzz 19 ?_
 refine tzz 20 ?_
 refine tzz 21 ?_
 refine tzz 22 ?_
 refine tzz 23 ?_
 refine tzz 24 ?_
 refine tzz 25 ?_
 refine wpAnyH_ready (rs := [26]) (by kernel_rfl) (by simp) ?_
 refine (acc rfl (fun K hK => ?_) AllReadyH.nil)
 ·skip
  go_simp
  have Q_ := own1 u2 (.cells #[.int .u8 0, .int .u8 0, .int .u8 0, .int .u8 0, .int .u8 0] 72)
  have P3 := Lib.hid (P2.out.below Q_)
  have K3 := Lib.hid (K2.out.trans (Keep3.of_below Q_))
  have X3 := Lib.hid (Has.new u2 #[.int .u8 0, .int .u8 0, .int .u8 0, .int .u8 0, .int .u8 0] 72)
  have LX := Lib.hid (K2.out.size)
  have NRX := Lib.hid (Nat.ne_of_lt P2.out.R.1)
  have NVX := Lib.hid (Nat.ne_of_lt P2.out.V.1)
  have NSX := Lib.hid (Nat.ne_of_lt P2.out.S.1)
  clear Q_
  clear P2 K2
  generalize u2.alloc (.cells #[.int .u8 0, .int .u8 0, .int .u8 0, .int .u8 0, .int .u8 0] 72) = u3 at P3 K3 X3 ⊢
  generalize u2.heap.size = xb at X3 LX NRX NVX NSX ⊢
  refine hK.out _ _ ?s121 (fun hNew => ?r121)
  case s121 => exact P3.out.R.2.1
  clear hK K hHeld
  have hHeld := hNew
  clear hNew
  refine wpAnyH_ready (rs := [27]) (by kernel_rfl) (by simp) ?_
  refine (acc rfl (fun K hK => ?_) AllReadyH.nil)
  ·skip
   refine wp_store_g r72 X3.out rfl #[.int .u8 c, .int .u8 sx, .int .u8 sy, .int .u8 wx, .int .u8 wy] rfl (five_one _ _ _ _ _) _ _ rfl rfl rfl ?_
   intro u4 hP hk
   try simp only [Act.put, qqA, qqB, qqC]
   have X4 := Lib.hid hP
   have K4 := Lib.hid (K3.out.new LX.out hk)
   have P4 := Lib.hid (P3.out.other hk (Ne.symm NRX.out) (Ne.symm NVX.out) (Ne.symm NSX.out))
   clear hP hk
   clear P3 K3 X3
   refine hK.out _ _ ?s122 (fun hNew => ?r122)
   case s122 => exact P4.out.R.2.1
   clear hK K hHeld
   have hHeld := hNew
   clear hNew
   refine wpAnyH_done (by kernel_rfl) ?_ _
   clear hHeld
   clear e_c e_sx e_sy e_wx e_wy
   go_upto_region 7 with (fail)
   have P5 := Lib.hid P4.out.drew
   have X5 := Lib.hid X4.out.drew
   have K5 := Lib.hid (K4.out.drew)
   clear P4 K4 X4
   have e_c := rc_u v s (upd m 8363 D) 2 c (by decide) (by decide) (by decide) (by decide) (Hc.out)
   have e_bk := rc_u v s (upd m 8363 D) 9 bk (by decide) (by decide) (by decide) (by decide) (Hbk.out)
   have e_fi := rc_u v s (upd m 8363 D) 10 fi (by decide) (by decide) (by decide) (by decide) (Hfi.out)
   have e_se := rc_u v s (upd m 8363 D) 11 se (by decide) (by decide) (by decide) (by decide) (Hse.out)
   refine wp_region_held_drew (S := (fun w' => (∀ o, w'.cell? ⟨r, o, none⟩ = (encR v s (upd m 8363 D))[o]?))) (by kernel_rfl) P5.out.R.2.1 (fun hHeld => ?_)
   generalize World.drew _ = u5 at hHeld P5 K5 X5 ⊢
   refine tzz 0 ?_
   refine tzz 1 ?_
   refine tzz 2 ?_
   refine tzz 3 ?_
   refine tzz 4 ?_
   refine tzz 5 ?_
   refine tzz 6 ?_
   refine tzz 7 ?_
   refine tzz 8 ?_
   refine tzz 9 ?_
   refine tzz 10 ?_
   refine tzz 11 ?_
   refine tzz 12 ?_
   refine tzz 13 ?_
   refine tzz 14 ?_
   refine tzz 15 ?_
   refine tzz 16 ?_
   refine tzz 17 ?_
   refine tzz 18 ?_
   refine tzz 19 ?_
   refine tzz 20 ?_
   refine wpAnyH_ready (rs := [21]) (by kernel_rfl) (by simp) ?_
   refine (acc rfl (fun K hK => ?_) AllReadyH.nil)
   ·skip
    go_simp
    have Q_ := own1 u5 (.cells #[.int .u8 0, .int .u8 0, .int .u8 0, .int .u8 0] 74)
    have P6 := Lib.hid (P5.out.below Q_)
    have K6 := Lib.hid (K5.out.trans (Keep3.of_below Q_))
    have X6 := Lib.hid (X5.out.below Q_)
    have Y6 := Lib.hid (Has.new u5 #[.int .u8 0, .int .u8 0, .int .u8 0, .int .u8 0] 74)
    have LY := Lib.hid (K5.out.size)
    have NRY := Lib.hid (Nat.ne_of_lt P5.out.R.1)
    have NVY := Lib.hid (Nat.ne_of_lt P5.out.V.1)
    have NSY := Lib.hid (Nat.ne_of_lt P5.out.S.1)
    have NXY := Lib.hid (Nat.ne_of_lt X5.out.1)
    clear Q_
    clear P5 K5 X5
    generalize u5.alloc (.cells #[.int .u8 0, .int .u8 0, .int .u8 0, .int .u8 0] 74) = u6 at P6 K6 X6 Y6 ⊢
    generalize u5.heap.size = yb at Y6 LY NRY NVY NSY NXY ⊢
    refine hK.out _ _ ?s144 (fun hNew => ?r144)
    case s144 => exact P6.out.R.2.1
    clear hK K hHeld
    have hHeld := hNew
    clear hNew
    refine wpAnyH_ready (rs := [22]) (by kernel_rfl) (by simp) ?_
    refine (acc rfl (fun K hK => ?_) AllReadyH.nil)
    ·skip
     refine wp_store_g r24 Y6.out rfl #[.int .u8 c, .int .u8 bk, .int .u8 fi, .int .u8 se] rfl (four_one _ _ _ _) _ _ rfl rfl rfl ?_
     intro u7 hP hk
     try simp only [Act.put, qqA, qqB, qqC]
     have Y7 := Lib.hid hP
     have K7 := Lib.hid (K6.out.new LY.out hk)
     have P7 := Lib.hid (P6.out.other hk (Ne.symm NRY.out) (Ne.symm NVY.out) (Ne.symm NSY.out))
     have X7 := Lib.hid (hk.has NXY.out X6.out)
     clear hP hk
     clear P6 K6 X6 Y6
     refine hK.out _ _ ?s145 (fun hNew => ?r145)
     case s145 => exact P7.out.R.2.1
     clear hK K hHeld
     have hHeld := hNew
     clear hNew
     refine wpAnyH_done (by kernel_rfl) ?_ _
     clear hHeld
     clear e_c e_bk e_fi e_se
     go_upto_region 8 with (fail)
     have P8 := Lib.hid P7.out.drew
     have X8 := Lib.hid X7.out.drew
     have Y8 := Lib.hid Y7.out.drew
     have K8 := Lib.hid (K7.out.drew)
     clear P7 K7 X7 Y7
     refine wp_region_held_drew (S := (fun w' => w'.cell? ⟨r, 0, none⟩ = some (.slice (some ⟨v, 0, none⟩) 8192 8192) ∧ w'.cell? ⟨r, 1, none⟩ = some (.slice (some ⟨s, 0, none⟩) 160 160) ∧ w'.cell? ⟨r, 14, none⟩ = some (.int .i64 (n : Int)) ∧ w'.cell? ⟨r, 16, none⟩ = some (.int .i64 ow) ∧ w'.rangeAt xb 0 (#[.int .u8 c, .int .u8 sx, .int .u8 sy, .int .u8 wx, .int .u8 wy] : Array Value).toList ∧ w'.rangeAt yb 0 (#[.int .u8 c, .int .u8 bk, .int .u8 fi, .int .u8 se] : Array Value).toList)) (by kernel_rfl) ⟨(P8.out.R.2.1 0).trans (encR_V _ _ _), (P8.out.R.2.1 1).trans (encR_S _ _ _), (by first | exact (P8.out.R.2.1 14).trans (rc_i v s (upd m 8363 D) 14 (n : Int) (by decide) (by decide) hL_.out) | exact (P8.out.R.2.1 14).trans (rc_i v s _ 14 (n : Int) (by decide) (by decide) ((row_out _ _ _ _ 8356 (by omega)).trans hL_.out))), (by first | exact (P8.out.R.2.1 16).trans (rc_i v s (upd m 8363 D) 16 ow (by decide) (by decide) How.out) | exact (P8.out.R.2.1 16).trans (rc_i v s _ 16 ow (by decide) (by decide) ((row_out _ _ _ _ 8364 (by omega)).trans How.out))), range_of_has X8.out, range_of_has Y8.out⟩ (fun hHeld => ?_)
     generalize World.drew _ = u8 at hHeld P8 K8 X8 Y8 ⊢
     refine tzz 0 ?_
     refine tzz 1 ?_
     refine tzz 2 ?_
     refine tzz 3 ?_
     refine tzz 4 ?_
     refine wpAnyH_take (i := 5) (oi := ⟨_, _, _, _, _, _⟩) (v := .agg #[.int .u8 c, .int .u8 bk, .int .u8 fi, .int .u8 se]) rfl (by kernel_rfl) (by kernel_rfl) (by kernel_rfl) (fun _ _ _ h => h) (yields_load r24 #[.int .u8 c, .int .u8 bk, .int .u8 fi, .int .u8 se] rfl yb (fun w hw => hw.2.2.2.2.2) (by rfl) _ rfl rfl) (by assumption) ?_
     try simp only [Act.put, qqA, qqB, qqC]
     refine tzz 6 ?_
     refine tzz 7 ?_
     refine tzz 8 ?_
     refine tzz 9 ?_
     refine tzz 10 ?_
     refine tzz 11 ?_
     refine tzz 12 ?_
     refine tzz 13 ?_
     refine tzz 14 ?_
     refine tzz 15 ?_
     refine tzz 16 ?_
     refine tzz 17 ?_
     refine wpAnyH_take (i := 18) (oi := ⟨_, _, _, _, _, _⟩) (v := .agg #[.int .u8 c, .int .u8 sx, .int .u8 sy, .int .u8 wx, .int .u8 wy]) rfl (by kernel_rfl) (by kernel_rfl) (by kernel_rfl) (fun _ _ _ h => h) (yields_load r72 #[.int .u8 c, .int .u8 sx, .int .u8 sy, .int .u8 wx, .int .u8 wy] rfl xb (fun w hw => hw.2.2.2.2.1) (by rfl) _ rfl rfl) (by assumption) ?_
     try simp only [Act.put, qqA, qqB, qqC]
     refine tzz 19 ?_
     refine tzz 20 ?_
     refine tzz 21 ?_
     refine tzz 22 ?_
     refine tzz 23 ?_
     refine tzz 24 ?_
     refine tzz 25 ?_
     refine tzz 26 ?_
     refine tzz 27 ?_
     refine tzz 28 ?_
     refine tzz 29 ?_
     refine tzz 30 ?_
     refine tzz 33 ?_
     refine tzz 34 ?_
     refine wpAnyH_ready (rs := [31]) (by kernel_rfl) (by simp) ?_
     refine (acc rfl (fun K hK => ?_) AllReadyH.nil)
     ·skip
      go_simp
      with_reducible refine ((HLN.out _ P8.out)).mono ?_
      rintro q_ u9 ⟨rfl, hb⟩
      have P9 := Lib.hid (P8.out.below hb)
      have K9 := Lib.hid (K8.out.trans (Keep3.of_below hb))
      have X9 := Lib.hid (X8.out.below hb)
      have Y9 := Lib.hid (Y8.out.below hb)
      clear hb
      clear P8 K8 X8 Y8
      refine hK.out _ _ ?s179 (fun hNew => ?r179)
      case s179 => exact ⟨(P9.out.R.2.1 0).trans (encR_V _ _ _), (P9.out.R.2.1 1).trans (encR_S _ _ _), (by first | exact (P9.out.R.2.1 14).trans (rc_i v s (upd m 8363 D) 14 (n : Int) (by decide) (by decide) hL_.out) | exact (P9.out.R.2.1 14).trans (rc_i v s _ 14 (n : Int) (by decide) (by decide) ((row_out _ _ _ _ 8356 (by omega)).trans hL_.out))), (by first | exact (P9.out.R.2.1 16).trans (rc_i v s (upd m 8363 D) 16 ow (by decide) (by decide) How.out) | exact (P9.out.R.2.1 16).trans (rc_i v s _ 16 ow (by decide) (by decide) ((row_out _ _ _ _ 8364 (by omega)).trans How.out))), range_of_has X9.out, range_of_has Y9.out⟩
      clear hK K hHeld
      have hHeld := hNew
      clear hNew
      refine wpAnyH_ready (rs := [32]) (by kernel_rfl) (by simp) ?_
      refine (acc rfl (fun K hK => ?_) AllReadyH.nil)
      ·skip
       go_simp
       with_reducible refine ((HLK.out _ P9.out)).mono ?_
       rintro q_ u10 ⟨rfl, hb⟩
       have P10 := Lib.hid (P9.out.below hb)
       have K10 := Lib.hid (K9.out.trans (Keep3.of_below hb))
       have X10 := Lib.hid (X9.out.below hb)
       have Y10 := Lib.hid (Y9.out.below hb)
       clear hb
       clear P9 K9 X9 Y9
       refine hK.out _ _ ?s180 (fun hNew => ?r180)
       case s180 => exact ⟨(P10.out.R.2.1 0).trans (encR_V _ _ _), (P10.out.R.2.1 1).trans (encR_S _ _ _), (by first | exact (P10.out.R.2.1 14).trans (rc_i v s (upd m 8363 D) 14 (n : Int) (by decide) (by decide) hL_.out) | exact (P10.out.R.2.1 14).trans (rc_i v s _ 14 (n : Int) (by decide) (by decide) ((row_out _ _ _ _ 8356 (by omega)).trans hL_.out))), (by first | exact (P10.out.R.2.1 16).trans (rc_i v s (upd m 8363 D) 16 ow (by decide) (by decide) How.out) | exact (P10.out.R.2.1 16).trans (rc_i v s _ 16 ow (by decide) (by decide) ((row_out _ _ _ _ 8364 (by omega)).trans How.out))), range_of_has X10.out, range_of_has Y10.out⟩
       clear hK K hHeld
       have hHeld := hNew
       clear hNew
       refine tzz 35 ?_
       refine wpAnyH_ready (rs := [36]) (by kernel_rfl) (by simp) ?_
       refine (acc rfl (fun K hK => ?_) AllReadyH.nil)
       ·skip
        refine wp_store_rrow P10.out.R Q _ _ rfl (19 + n * 160) rfl rfl (by omega) (by omega) ?_
        intro u11 hP hk
        try simp only [Act.put, qqA, qqB, qqC]
        have P11 := Lib.hid (P10.out.setRow (8348 + (19 + n * 160)) Q (by omega) hP hk)
        have K11 := Lib.hid (K10.out.trans (Keep3.ofR hk))
        have X11 := Lib.hid (hk.has (Ne.symm NRX.out) X10.out)
        have Y11 := Lib.hid (hk.has (Ne.symm NRY.out) Y10.out)
        clear hP hk
        clear P10 K10 X10 Y10
        refine hK.out _ _ ?s182 (fun hNew => ?r182)
        case s182 => exact ⟨(P11.out.R.2.1 0).trans (encR_V _ _ _), (P11.out.R.2.1 1).trans (encR_S _ _ _), (by first | exact (P11.out.R.2.1 14).trans (rc_i v s (upd m 8363 D) 14 (n : Int) (by decide) (by decide) hL_.out) | exact (P11.out.R.2.1 14).trans (rc_i v s _ 14 (n : Int) (by decide) (by decide) ((row_out _ _ _ _ 8356 (by omega)).trans hL_.out))), (by first | exact (P11.out.R.2.1 16).trans (rc_i v s (upd m 8363 D) 16 ow (by decide) (by decide) How.out) | exact (P11.out.R.2.1 16).trans (rc_i v s _ 16 ow (by decide) (by decide) ((row_out _ _ _ _ 8364 (by omega)).trans How.out))), range_of_has X11.out, range_of_has Y11.out⟩
        clear hK K hHeld
        have hHeld := hNew
        clear hNew
        refine wpAnyH_done (by kernel_rfl) ?_ _
        clear hHeld
        go_upto_region 9 with (fail)
        have P12 := Lib.hid P11.out.drew
        have X12 := Lib.hid X11.out.drew
        have Y12 := Lib.hid Y11.out.drew
        have K12 := Lib.hid (K11.out.drew)
        clear P11 K11 X11 Y11
        refine wp_region_held_drew (S := (fun w' => w'.cell? ⟨r, 14, none⟩ = some (.int .i64 (n : Int)) ∧ w'.rangeAt xb 0 (#[.int .u8 c, .int .u8 sx, .int .u8 sy, .int .u8 wx, .int .u8 wy] : Array Value).toList)) (by kernel_rfl) ⟨((P12.out.R.2.1 14).trans (rc_i v s _ 14 (n : Int) (by decide) (by decide) ((row_out _ _ _ _ 8356 (by omega)).trans hL_.out))), range_of_has X12.out⟩ (fun hHeld => ?_)
        generalize World.drew _ = u12 at hHeld P12 K12 X12 Y12 ⊢
        refine wpAnyH_take (i := 0) (oi := ⟨_, _, _, _, _, _⟩) (v := .agg #[.int .u8 c, .int .u8 sx, .int .u8 sy, .int .u8 wx, .int .u8 wy]) rfl (by kernel_rfl) (by kernel_rfl) (by kernel_rfl) (fun _ _ _ h => h) (yields_load r72 #[.int .u8 c, .int .u8 sx, .int .u8 sy, .int .u8 wx, .int .u8 wy] rfl xb (fun w hw => hw.2) (by rfl) _ rfl rfl) (by assumption) ?_
        try simp only [Act.put, qqA, qqB, qqC]
        refine tzz 1 ?_
        refine tzz 2 ?_
        refine tzz 3 ?_
        refine tzz 4 ?_
        refine wpAnyH_ready (rs := [5]) (by kernel_rfl) (by simp) ?_
        refine (acc rfl (fun K hK => ?_) AllReadyH.nil)
        ·skip
         go_simp
         with_reducible refine ((HSE.out _)).mono ?_
         rintro q_ u13 ⟨rfl, hb⟩
         have P13 := Lib.hid (P12.out.below hb)
         have K13 := Lib.hid (K12.out.trans (Keep3.of_below hb))
         have X13 := Lib.hid (X12.out.below hb)
         have Y13 := Lib.hid (Y12.out.below hb)
         clear hb
         clear P12 K12 X12 Y12
         refine hK.out _ _ ?s188 (fun hNew => ?r188)
         case s188 => exact ⟨((P13.out.R.2.1 14).trans (rc_i v s _ 14 (n : Int) (by decide) (by decide) ((row_out _ _ _ _ 8356 (by omega)).trans hL_.out))), range_of_has X13.out⟩
         clear hK K hHeld
         have hHeld := hNew
         clear hNew
         refine wpAnyH_done (by kernel_rfl) ?_ _
         clear hHeld
         obtain ⟨hc, hf⟩ := P13.out.R.out
         have e_d := rc_i v s (row (upd m 8363 D) (8348 + (19 + n * 160)) 160 Q) 15 D (by decide) (by decide) (show (row (upd m 8363 D) (8348 + (19 + n * 160)) 160 Q) 8363 = D from ((row_out _ _ _ _ 8363 (by omega)).trans (upd_same _ _ _)))
         go_wp2_with (fail)
         with_reducible refine (HS_.out _ P13.out).mono ?_
         rintro q_ u14 ⟨rfl, hP, hk⟩
         have P14 := Lib.hid hP
         have K14 := Lib.hid (K13.out.trans hk)
         clear hP hk P13 K13
         clear hc hf e_d
         go_wp2
         all_goals first | exact bodyPost_ret (v := .int .u8 rr) (by simp [results, Try.results29, go_sem]) rfl ⟨rfl, P14.out, K14.out⟩ | exact bodyPost_end (v := .int .u8 rr) (by simp [results, Try.results29, go_sem]) rfl ⟨rfl, P14.out, K14.out⟩
end Go.Proofs.Ytpfbodmadmneiaa
