/-
  A write into the document's unit: for every unit as it can be; no other condition but that each number fits.
-/
import Derived.Test.YtpfbodmadmneiaaRb
import Derived.Deep.Cut
import Derived.BigQuiet
import Derived.WalkSmall
import Derived.Deep.DeepCutAuto
import Derived.Deep.CutBlock
namespace Go.Proofs.Ytpfbodmadmneiaa
open Go.ChangeShapes Go.WideShapes Go.ChangeAt Go.RowKit
set_option linter.unusedVariables false
set_option linter.unusedSimpArgs false
set_option maxRecDepth 100000
set_option maxHeartbeats 2000000 in
theorem rwr_h (r v s : Nat) (m : M) (c : Int) (hc : m 8352 = c) (c0 : 0 ≤ c) (c1 : c < 256) (L : Int) (hL : m 8356 = L) (L0 : 0 ≤ L) (L1 : L < 256) (d : Int) (hd : m 8363 = d) (d0 : 0 ≤ d) (d1 : d < 256)  (a : Int) (a0 : 0 ≤ a) (a1 : a < 65536) (x : Int) (x0 : 0 ≤ x) (x1 : x < 256) (hz : hidV (modeV c L d) a = true) (w : World) (h : RU w r v s m) : Calls Try.prog 31 #[.pointer (some ⟨r, 0, none⟩), .int .u16 a, .int .u8 x] w fun q_ w' => q_ = .returned (.int .u8 0) ∧ RU w' r v s (m) ∧ Keep3 r v s w w' := by
  suffices hall : ∀ w0 : World, Keep3 r v s w0 w → Calls Try.prog 31 #[.pointer (some ⟨r, 0, none⟩), .int .u16 a, .int .u8 x] w fun q_ w' => q_ = .returned (.int .u8 0) ∧ RU w' r v s (m) ∧ Keep3 r v s w0 w' from hall w (Keep3.refl r v s w)
  intro w0 hK
  have P0 := Lib.hid h
  have K0 := Lib.hid hK
  clear h hK
  have Hc := Lib.hid hc
  clear hc
  have HL := Lib.hid hL
  clear hL
  have Hd := Lib.hid hd
  clear hd
  have HZ := Lib.hid hz
  clear hz
  go_enter Try.func31, Try.ntmps31
  go_wp2_with (fail)
  with_reducible refine (rshut_c r v s m c Hc.out c0 c1 L HL.out L0 L1 d Hd.out d0 d1 a a0 a1 true HZ.out _ P0.out).mono ?_
  rintro q_ w' ⟨rfl, rfl⟩
  go_wp2
  all_goals first | exact bodyPost_ret (v := .int .u8 0) (by simp [results, Try.results31, go_sem]) rfl ⟨rfl, P0.out, K0.out⟩ | exact bodyPost_end (v := .int .u8 0) (by simp [results, Try.results31, go_sem]) rfl ⟨rfl, P0.out, K0.out⟩
set_option maxHeartbeats 2000000 in
theorem rwr_v (r v s : Nat) (m : M) (c : Int) (hc : m 8352 = c) (c0 : 0 ≤ c) (c1 : c < 256) (L : Int) (hL : m 8356 = L) (L0 : 0 ≤ L) (L1 : L < 256) (d : Int) (hd : m 8363 = d) (d0 : 0 ≤ d) (d1 : d < 256)  (a : Int) (a0 : 0 ≤ a) (a1 : a < 65536) (x : Int) (x0 : 0 ≤ x) (x1 : x < 256) (hz : hidV (modeV c L d) a = false) (k : Nat) (hk : a = 32768 + k) (k1 : k < 8192) (w : World) (h : RU w r v s m) : Calls Try.prog 31 #[.pointer (some ⟨r, 0, none⟩), .int .u16 a, .int .u8 x] w fun q_ w' => q_ = .returned (.int .u8 0) ∧ RU w' r v s (upd m k x) ∧ Keep3 r v s w w' := by
  suffices hall : ∀ w0 : World, Keep3 r v s w0 w → Calls Try.prog 31 #[.pointer (some ⟨r, 0, none⟩), .int .u16 a, .int .u8 x] w fun q_ w' => q_ = .returned (.int .u8 0) ∧ RU w' r v s (upd m k x) ∧ Keep3 r v s w0 w' from hall w (Keep3.refl r v s w)
  intro w0 hK
  have P0 := Lib.hid h
  have K0 := Lib.hid hK
  clear h hK
  have Hc := Lib.hid hc
  clear hc
  have HL := Lib.hid hL
  clear hL
  have Hd := Lib.hid hd
  clear hd
  have HZ := Lib.hid hz
  clear hz
  have w1 : IntKind.i64.wrap (a - 32768) = k := by rw [IntKind.wrap_i64]; omega
  have k2 : (k : Int) < 8192 := by omega
  have g1 : 32768 ≤ a := by omega
  have g2 : a < 40960 := by omega
  clear hk
  go_enter Try.func31, Try.ntmps31
  go_wp2_with (fail)
  with_reducible refine (rshut_c r v s m c Hc.out c0 c1 L HL.out L0 L1 d Hd.out d0 d1 a a0 a1 false HZ.out _ P0.out).mono ?_
  rintro q_ w' ⟨rfl, rfl⟩
  obtain ⟨hc, hf⟩ := P0.out.R.out
  have e_V := encR_V v s m
  have e_S := encR_S v s m
  go_wp2_with (refine store_v P0.out.V rfl _ _ rfl _ rfl _ rfl (by omega) ?_)
  intro u1 hP hk
  clear hc hf e_V e_S
  have P1 := Lib.hid (P0.out.setV k (x) (by omega) hP hk)
  have K1 := Lib.hid (K0.out.trans (Keep3.ofV hk))
  clear hP hk P0 K0
  try simp only [Act.put]
  go_wp2
  all_goals first | exact bodyPost_ret (v := .int .u8 0) (by simp [results, Try.results31, go_sem]) rfl ⟨rfl, P1.out, K1.out⟩ | exact bodyPost_end (v := .int .u8 0) (by simp [results, Try.results31, go_sem]) rfl ⟨rfl, P1.out, K1.out⟩
set_option maxHeartbeats 2000000 in
theorem rwr_o (r v s : Nat) (m : M) (c : Int) (hc : m 8352 = c) (c0 : 0 ≤ c) (c1 : c < 256) (L : Int) (hL : m 8356 = L) (L0 : 0 ≤ L) (L1 : L < 256) (d : Int) (hd : m 8363 = d) (d0 : 0 ≤ d) (d1 : d < 256)  (a : Int) (a0 : 0 ≤ a) (a1 : a < 65536) (x : Int) (x0 : 0 ≤ x) (x1 : x < 256) (hz : hidV (modeV c L d) a = false) (k : Nat) (hk : a = 65024 + k) (k1 : k < 160) (w : World) (h : RU w r v s m) : Calls Try.prog 31 #[.pointer (some ⟨r, 0, none⟩), .int .u16 a, .int .u8 x] w fun q_ w' => q_ = .returned (.int .u8 0) ∧ RU w' r v s (upd m (8192 + k) x) ∧ Keep3 r v s w w' := by
  suffices hall : ∀ w0 : World, Keep3 r v s w0 w → Calls Try.prog 31 #[.pointer (some ⟨r, 0, none⟩), .int .u16 a, .int .u8 x] w fun q_ w' => q_ = .returned (.int .u8 0) ∧ RU w' r v s (upd m (8192 + k) x) ∧ Keep3 r v s w0 w' from hall w (Keep3.refl r v s w)
  intro w0 hK
  have P0 := Lib.hid h
  have K0 := Lib.hid hK
  clear h hK
  have Hc := Lib.hid hc
  clear hc
  have HL := Lib.hid hL
  clear hL
  have Hd := Lib.hid hd
  clear hd
  have HZ := Lib.hid hz
  clear hz
  have w1 : IntKind.i64.wrap (a - 65024) = k := by rw [IntKind.wrap_i64]; omega
  have k2 : (k : Int) < 160 := by omega
  have g1 : 32768 ≤ a := by omega
  have g : ¬ a < 40960 := by omega
  have g2 : 65024 ≤ a := by omega
  have g3 : a < 65184 := by omega
  clear hk
  go_enter Try.func31, Try.ntmps31
  go_wp2_with (fail)
  with_reducible refine (rshut_c r v s m c Hc.out c0 c1 L HL.out L0 L1 d Hd.out d0 d1 a a0 a1 false HZ.out _ P0.out).mono ?_
  rintro q_ w' ⟨rfl, rfl⟩
  obtain ⟨hc, hf⟩ := P0.out.R.out
  have e_V := encR_V v s m
  have e_S := encR_S v s m
  go_wp2_with (refine store_o P0.out.S rfl _ _ rfl _ rfl _ rfl (by omega) ?_)
  intro u1 hP hk
  clear hc hf e_V e_S
  have P1 := Lib.hid (P0.out.setS k (x) (by omega) hP hk)
  have K1 := Lib.hid (K0.out.trans (Keep3.ofS hk))
  clear hP hk P0 K0
  try simp only [Act.put]
  go_wp2
  all_goals first | exact bodyPost_ret (v := .int .u8 0) (by simp [results, Try.results31, go_sem]) rfl ⟨rfl, P1.out, K1.out⟩ | exact bodyPost_end (v := .int .u8 0) (by simp [results, Try.results31, go_sem]) rfl ⟨rfl, P1.out, K1.out⟩
set_option maxHeartbeats 2000000 in
theorem rwr_lo (r v s : Nat) (m : M) (c : Int) (hc : m 8352 = c) (c0 : 0 ≤ c) (c1 : c < 256) (L : Int) (hL : m 8356 = L) (L0 : 0 ≤ L) (L1 : L < 256) (d : Int) (hd : m 8363 = d) (d0 : 0 ≤ d) (d1 : d < 256)  (a : Int) (a0 : 0 ≤ a) (a1 : a < 65536) (x : Int) (x0 : 0 ≤ x) (x1 : x < 256) (hz : hidV (modeV c L d) a = false) (h1 : a < 32768) (w : World) (h : RU w r v s m) : Calls Try.prog 31 #[.pointer (some ⟨r, 0, none⟩), .int .u16 a, .int .u8 x] w fun q_ w' => q_ = .returned (.int .u8 0) ∧ RU w' r v s (m) ∧ Keep3 r v s w w' := by
  suffices hall : ∀ w0 : World, Keep3 r v s w0 w → Calls Try.prog 31 #[.pointer (some ⟨r, 0, none⟩), .int .u16 a, .int .u8 x] w fun q_ w' => q_ = .returned (.int .u8 0) ∧ RU w' r v s (m) ∧ Keep3 r v s w0 w' from hall w (Keep3.refl r v s w)
  intro w0 hK
  have P0 := Lib.hid h
  have K0 := Lib.hid hK
  clear h hK
  have Hc := Lib.hid hc
  clear hc
  have HL := Lib.hid hL
  clear hL
  have Hd := Lib.hid hd
  clear hd
  have HZ := Lib.hid hz
  clear hz
  have g : ¬ 32768 ≤ a := by omega
  have g2 : ¬ 65024 ≤ a := by omega
  have g3 : a < 65344 := by omega
  go_enter Try.func31, Try.ntmps31
  go_wp2_with (fail)
  with_reducible refine (rshut_c r v s m c Hc.out c0 c1 L HL.out L0 L1 d Hd.out d0 d1 a a0 a1 false HZ.out _ P0.out).mono ?_
  rintro q_ w' ⟨rfl, rfl⟩
  go_wp2
  all_goals first | exact bodyPost_ret (v := .int .u8 0) (by simp [results, Try.results31, go_sem]) rfl ⟨rfl, P0.out, K0.out⟩ | exact bodyPost_end (v := .int .u8 0) (by simp [results, Try.results31, go_sem]) rfl ⟨rfl, P0.out, K0.out⟩
set_option maxHeartbeats 2000000 in
theorem rwr_md (r v s : Nat) (m : M) (c : Int) (hc : m 8352 = c) (c0 : 0 ≤ c) (c1 : c < 256) (L : Int) (hL : m 8356 = L) (L0 : 0 ≤ L) (L1 : L < 256) (d : Int) (hd : m 8363 = d) (d0 : 0 ≤ d) (d1 : d < 256)  (a : Int) (a0 : 0 ≤ a) (a1 : a < 65536) (x : Int) (x0 : 0 ≤ x) (x1 : x < 256) (hz : hidV (modeV c L d) a = false) (h1 : 40960 ≤ a) (h2 : a < 65024) (w : World) (h : RU w r v s m) : Calls Try.prog 31 #[.pointer (some ⟨r, 0, none⟩), .int .u16 a, .int .u8 x] w fun q_ w' => q_ = .returned (.int .u8 0) ∧ RU w' r v s (m) ∧ Keep3 r v s w w' := by
  suffices hall : ∀ w0 : World, Keep3 r v s w0 w → Calls Try.prog 31 #[.pointer (some ⟨r, 0, none⟩), .int .u16 a, .int .u8 x] w fun q_ w' => q_ = .returned (.int .u8 0) ∧ RU w' r v s (m) ∧ Keep3 r v s w0 w' from hall w (Keep3.refl r v s w)
  intro w0 hK
  have P0 := Lib.hid h
  have K0 := Lib.hid hK
  clear h hK
  have Hc := Lib.hid hc
  clear hc
  have HL := Lib.hid hL
  clear hL
  have Hd := Lib.hid hd
  clear hd
  have HZ := Lib.hid hz
  clear hz
  have g1 : 32768 ≤ a := by omega
  have g : ¬ a < 40960 := by omega
  have g2 : ¬ 65024 ≤ a := by omega
  have g3 : a < 65344 := by omega
  go_enter Try.func31, Try.ntmps31
  go_wp2_with (fail)
  with_reducible refine (rshut_c r v s m c Hc.out c0 c1 L HL.out L0 L1 d Hd.out d0 d1 a a0 a1 false HZ.out _ P0.out).mono ?_
  rintro q_ w' ⟨rfl, rfl⟩
  go_wp2
  all_goals first | exact bodyPost_ret (v := .int .u8 0) (by simp [results, Try.results31, go_sem]) rfl ⟨rfl, P0.out, K0.out⟩ | exact bodyPost_end (v := .int .u8 0) (by simp [results, Try.results31, go_sem]) rfl ⟨rfl, P0.out, K0.out⟩
set_option maxHeartbeats 2000000 in
theorem rwr_gp (r v s : Nat) (m : M) (c : Int) (hc : m 8352 = c) (c0 : 0 ≤ c) (c1 : c < 256) (L : Int) (hL : m 8356 = L) (L0 : 0 ≤ L) (L1 : L < 256) (d : Int) (hd : m 8363 = d) (d0 : 0 ≤ d) (d1 : d < 256)  (a : Int) (a0 : 0 ≤ a) (a1 : a < 65536) (x : Int) (x0 : 0 ≤ x) (x1 : x < 256) (hz : hidV (modeV c L d) a = false) (h1 : 65184 ≤ a) (h2 : a < 65344) (w : World) (h : RU w r v s m) : Calls Try.prog 31 #[.pointer (some ⟨r, 0, none⟩), .int .u16 a, .int .u8 x] w fun q_ w' => q_ = .returned (.int .u8 0) ∧ RU w' r v s (m) ∧ Keep3 r v s w w' := by
  suffices hall : ∀ w0 : World, Keep3 r v s w0 w → Calls Try.prog 31 #[.pointer (some ⟨r, 0, none⟩), .int .u16 a, .int .u8 x] w fun q_ w' => q_ = .returned (.int .u8 0) ∧ RU w' r v s (m) ∧ Keep3 r v s w0 w' from hall w (Keep3.refl r v s w)
  intro w0 hK
  have P0 := Lib.hid h
  have K0 := Lib.hid hK
  clear h hK
  have Hc := Lib.hid hc
  clear hc
  have HL := Lib.hid hL
  clear hL
  have Hd := Lib.hid hd
  clear hd
  have HZ := Lib.hid hz
  clear hz
  have g1 : 32768 ≤ a := by omega
  have g : ¬ a < 40960 := by omega
  have g2 : 65024 ≤ a := by omega
  have g3 : ¬ a < 65184 := by omega
  go_enter Try.func31, Try.ntmps31
  go_wp2_with (fail)
  with_reducible refine (rshut_c r v s m c Hc.out c0 c1 L HL.out L0 L1 d Hd.out d0 d1 a a0 a1 false HZ.out _ P0.out).mono ?_
  rintro q_ w' ⟨rfl, rfl⟩
  go_wp2
  all_goals first | exact bodyPost_ret (v := .int .u8 0) (by simp [results, Try.results31, go_sem]) rfl ⟨rfl, P0.out, K0.out⟩ | exact bodyPost_end (v := .int .u8 0) (by simp [results, Try.results31, go_sem]) rfl ⟨rfl, P0.out, K0.out⟩
set_option maxHeartbeats 2000000 in
theorem rwr_hi (r v s : Nat) (m : M) (c : Int) (hc : m 8352 = c) (c0 : 0 ≤ c) (c1 : c < 256) (L : Int) (hL : m 8356 = L) (L0 : 0 ≤ L) (L1 : L < 256) (d : Int) (hd : m 8363 = d) (d0 : 0 ≤ d) (d1 : d < 256)  (a : Int) (a0 : 0 ≤ a) (a1 : a < 65536) (x : Int) (x0 : 0 ≤ x) (x1 : x < 256) (hz : hidV (modeV c L d) a = false) (h1 : 65355 < a) (w : World) (h : RU w r v s m) : Calls Try.prog 31 #[.pointer (some ⟨r, 0, none⟩), .int .u16 a, .int .u8 x] w fun q_ w' => q_ = .returned (.int .u8 0) ∧ RU w' r v s (m) ∧ Keep3 r v s w w' := by
  suffices hall : ∀ w0 : World, Keep3 r v s w0 w → Calls Try.prog 31 #[.pointer (some ⟨r, 0, none⟩), .int .u16 a, .int .u8 x] w fun q_ w' => q_ = .returned (.int .u8 0) ∧ RU w' r v s (m) ∧ Keep3 r v s w0 w' from hall w (Keep3.refl r v s w)
  intro w0 hK
  have P0 := Lib.hid h
  have K0 := Lib.hid hK
  clear h hK
  have Hc := Lib.hid hc
  clear hc
  have HL := Lib.hid hL
  clear hL
  have Hd := Lib.hid hd
  clear hd
  have HZ := Lib.hid hz
  clear hz
  have g1 : 32768 ≤ a := by omega
  have g : ¬ a < 40960 := by omega
  have g2 : 65024 ≤ a := by omega
  have g3 : ¬ a < 65184 := by omega
  have g4 : ¬ a < 65344 := by omega
  go_enter Try.func31, Try.ntmps31
  go_wp2_with (fail)
  with_reducible refine (rshut_c r v s m c Hc.out c0 c1 L HL.out L0 L1 d Hd.out d0 d1 a a0 a1 false HZ.out _ P0.out).mono ?_
  rintro q_ w' ⟨rfl, rfl⟩
  go_wp2
  all_goals first | exact bodyPost_ret (v := .int .u8 0) (by simp [results, Try.results31, go_sem]) rfl ⟨rfl, P0.out, K0.out⟩ | exact bodyPost_end (v := .int .u8 0) (by simp [results, Try.results31, go_sem]) rfl ⟨rfl, P0.out, K0.out⟩
set_option maxHeartbeats 2000000 in
theorem rwr_50 (r v s : Nat) (m : M) (c : Int) (hc : m 8352 = c) (c0 : 0 ≤ c) (c1 : c < 256) (L : Int) (hL : m 8356 = L) (L0 : 0 ≤ L) (L1 : L < 256) (d : Int) (hd : m 8363 = d) (d0 : 0 ≤ d) (d1 : d < 256)  (x : Int) (x0 : 0 ≤ x) (x1 : x < 256) (hz : hidV (modeV c L d) 65350 = false)  (w : World) (h : RU w r v s m) : Calls Try.prog 31 #[.pointer (some ⟨r, 0, none⟩), .int .u16 65350, .int .u8 x] w fun q_ w' => q_ = .returned (.int .u8 0) ∧ RU w' r v s (m) ∧ Keep3 r v s w w' := by
  suffices hall : ∀ w0 : World, Keep3 r v s w0 w → Calls Try.prog 31 #[.pointer (some ⟨r, 0, none⟩), .int .u16 65350, .int .u8 x] w fun q_ w' => q_ = .returned (.int .u8 0) ∧ RU w' r v s (m) ∧ Keep3 r v s w0 w' from hall w (Keep3.refl r v s w)
  intro w0 hK
  have P0 := Lib.hid h
  have K0 := Lib.hid hK
  clear h hK
  have Hc := Lib.hid hc
  clear hc
  have HL := Lib.hid hL
  clear hL
  have Hd := Lib.hid hd
  clear hd
  have HZ := Lib.hid hz
  clear hz
  go_enter Try.func31, Try.ntmps31
  go_wp2_with (fail)
  with_reducible refine (rshut_c r v s m c Hc.out c0 c1 L HL.out L0 L1 d Hd.out d0 d1 65350 (by decide) (by decide) false HZ.out _ P0.out).mono ?_
  rintro q_ w' ⟨rfl, rfl⟩
  go_wp2
  all_goals first | exact bodyPost_ret (v := .int .u8 0) (by simp [results, Try.results31, go_sem]) rfl ⟨rfl, P0.out, K0.out⟩ | exact bodyPost_end (v := .int .u8 0) (by simp [results, Try.results31, go_sem]) rfl ⟨rfl, P0.out, K0.out⟩
set_option maxHeartbeats 4000000 in
theorem rwr_1t (r v s : Nat) (m : M) (c : Int) (hc : m 8352 = c) (c0 : 0 ≤ c) (c1 : c < 256) (L : Int) (hL : m 8356 = L) (L0 : 0 ≤ L) (L1 : L < 256) (d : Int) (hd : m 8363 = d) (d0 : 0 ≤ d) (d1 : d < 256)  (x : Int) (x0 : 0 ≤ x) (x1 : x < 256) (hz : hidV (modeV c L d) 65345 = false) (hy : decide (128 ≤ c) = true) (m4 : M) (rr : Int) (HS : ∀ W, RU W r v s (upd m 8353 (x / 8 % 16 * 8)) → Calls Try.prog 51 #[.pointer (some ⟨r, 0, none⟩)] W fun q_ w' => q_ = .returned (.int .u8 rr) ∧ RU w' r v s m4 ∧ Keep3 r v s W w') (w : World) (h : RU w r v s m) : Calls Try.prog 31 #[.pointer (some ⟨r, 0, none⟩), .int .u16 65345, .int .u8 x] w fun q_ w' => q_ = .returned (.int .u8 rr) ∧ RU w' r v s (m4) ∧ Keep3 r v s w w' := by
  suffices hall : ∀ w0 : World, Keep3 r v s w0 w → Calls Try.prog 31 #[.pointer (some ⟨r, 0, none⟩), .int .u16 65345, .int .u8 x] w fun q_ w' => q_ = .returned (.int .u8 rr) ∧ RU w' r v s (m4) ∧ Keep3 r v s w0 w' from hall w (Keep3.refl r v s w)
  intro w0 hK
  have P0 := Lib.hid h
  have K0 := Lib.hid hK
  clear h hK
  have Hc := Lib.hid hc
  clear hc
  have HL := Lib.hid hL
  clear hL
  have Hd := Lib.hid hd
  clear hd
  have HZ := Lib.hid hz
  clear hz
  have HY := Lib.hid hy
  have SS := Lib.hid HS
  clear hy HS
  have dd1 : x.tdiv 8 = x / 8 := Int.tdiv_eq_ediv_of_nonneg x0
  have dd2 : (x / 8).tmod 16 = x / 8 % 16 := Int.tmod_eq_emod_of_nonneg (by omega)
  have dd3 : IntKind.u8.wrap (x / 8 % 16 * 8) = x / 8 % 16 * 8 := by rw [IntKind.wrap_u8]; omega
  have dd4 : IntKind.u8.wrap (x / 8) = x / 8 := by rw [IntKind.wrap_u8]; omega
  have hnot : ∀ (x : Bool) (w : World), (Op.unary .not (.bool x)).run Try.prog w = .ok (.bool (!x)) w := fun _ _ => rfl
  go_enter Try.func31, Try.ntmps31
  go_wp2_with (fail)
  with_reducible refine (rshut_c r v s m c Hc.out c0 c1 L HL.out L0 L1 d Hd.out d0 d1 65345 (by decide) (by decide) false HZ.out _ P0.out).mono ?_
  rintro q_ w' ⟨rfl, rfl⟩
  go_wp2_with (fail)
  with_reducible refine (ron_c r v s m c Hc.out c0 c1 true HY.out _ P0.out).mono ?_
  rintro q_ w' ⟨rfl, rfl⟩
  obtain ⟨hc, hf⟩ := P0.out.R.out
  go_wp2_with (refine store_ru P0.out.R rfl _ _ rfl _ rfl _ rfl (by omega) (by omega) (by omega) (by omega) ?_)
  intro u1 hP hk
  clear hc hf
  replace hP : Has u1 r (encR v s (upd m 8353 (x / 8 % 16 * 8))) := hP
  have P1 := Lib.hid (P0.out.setR 8353 (x / 8 % 16 * 8) (by omega) hP hk)
  have K1 := Lib.hid (K0.out.trans (Keep3.ofR hk))
  clear hP hk P0 K0
  try simp only [Act.put]
  go_wp2_with (fail)
  with_reducible refine (ron_c r v s (upd m 8353 (x / 8 % 16 * 8)) c ((upd_ne _ _ _ _ (by decide)).trans Hc.out) c0 c1 true HY.out _ P1.out).mono ?_
  rintro q_ w' ⟨rfl, rfl⟩
  go_wp2_with (fail)
  with_reducible refine (SS.out _ P1.out).mono ?_
  rintro q_ u2 ⟨rfl, hP, hk⟩
  have P2 := Lib.hid hP
  have K2 := Lib.hid (K1.out.trans hk)
  clear hP hk P1 K1
  go_wp2
  all_goals first | exact bodyPost_ret (v := .int .u8 rr) (by simp [results, Try.results31, go_sem]) rfl ⟨rfl, P2.out, K2.out⟩ | exact bodyPost_end (v := .int .u8 rr) (by simp [results, Try.results31, go_sem]) rfl ⟨rfl, P2.out, K2.out⟩
set_option maxHeartbeats 4000000 in
theorem rwr_1f (r v s : Nat) (m : M) (c : Int) (hc : m 8352 = c) (c0 : 0 ≤ c) (c1 : c < 256) (L : Int) (hL : m 8356 = L) (L0 : 0 ≤ L) (L1 : L < 256) (d : Int) (hd : m 8363 = d) (d0 : 0 ≤ d) (d1 : d < 256)  (x : Int) (x0 : 0 ≤ x) (x1 : x < 256) (hz : hidV (modeV c L d) 65345 = false) (hy : decide (128 ≤ c) = false) (m4 : M) (rr : Int) (HS : ∀ W, RU W r v s (upd m 8353 (x / 8 % 16 * 8)) → Calls Try.prog 51 #[.pointer (some ⟨r, 0, none⟩)] W fun q_ w' => q_ = .returned (.int .u8 rr) ∧ RU w' r v s m4 ∧ Keep3 r v s W w') (w : World) (h : RU w r v s m) : Calls Try.prog 31 #[.pointer (some ⟨r, 0, none⟩), .int .u16 65345, .int .u8 x] w fun q_ w' => q_ = .returned (.int .u8 rr) ∧ RU w' r v s (m4) ∧ Keep3 r v s w w' := by
  suffices hall : ∀ w0 : World, Keep3 r v s w0 w → Calls Try.prog 31 #[.pointer (some ⟨r, 0, none⟩), .int .u16 65345, .int .u8 x] w fun q_ w' => q_ = .returned (.int .u8 rr) ∧ RU w' r v s (m4) ∧ Keep3 r v s w0 w' from hall w (Keep3.refl r v s w)
  intro w0 hK
  have P0 := Lib.hid h
  have K0 := Lib.hid hK
  clear h hK
  have Hc := Lib.hid hc
  clear hc
  have HL := Lib.hid hL
  clear hL
  have Hd := Lib.hid hd
  clear hd
  have HZ := Lib.hid hz
  clear hz
  have HY := Lib.hid hy
  have SS := Lib.hid HS
  clear hy HS
  have dd1 : x.tdiv 8 = x / 8 := Int.tdiv_eq_ediv_of_nonneg x0
  have dd2 : (x / 8).tmod 16 = x / 8 % 16 := Int.tmod_eq_emod_of_nonneg (by omega)
  have dd3 : IntKind.u8.wrap (x / 8 % 16 * 8) = x / 8 % 16 * 8 := by rw [IntKind.wrap_u8]; omega
  have dd4 : IntKind.u8.wrap (x / 8) = x / 8 := by rw [IntKind.wrap_u8]; omega
  have hnot : ∀ (x : Bool) (w : World), (Op.unary .not (.bool x)).run Try.prog w = .ok (.bool (!x)) w := fun _ _ => rfl
  go_enter Try.func31, Try.ntmps31
  go_wp2_with (fail)
  with_reducible refine (rshut_c r v s m c Hc.out c0 c1 L HL.out L0 L1 d Hd.out d0 d1 65345 (by decide) (by decide) false HZ.out _ P0.out).mono ?_
  rintro q_ w' ⟨rfl, rfl⟩
  go_wp2_with (fail)
  with_reducible refine (ron_c r v s m c Hc.out c0 c1 false HY.out _ P0.out).mono ?_
  rintro q_ w' ⟨rfl, rfl⟩
  obtain ⟨hc, hf⟩ := P0.out.R.out
  go_wp2_with (refine store_ru P0.out.R rfl _ _ rfl _ rfl _ rfl (by omega) (by omega) (by omega) (by omega) ?_)
  intro u1 hP hk
  clear hc hf
  replace hP : Has u1 r (encR v s (upd m 8353 (x / 8 % 16 * 8))) := hP
  have P1 := Lib.hid (P0.out.setR 8353 (x / 8 % 16 * 8) (by omega) hP hk)
  have K1 := Lib.hid (K0.out.trans (Keep3.ofR hk))
  clear hP hk P0 K0
  try simp only [Act.put]
  go_wp2_with (fail)
  with_reducible refine (SS.out _ P1.out).mono ?_
  rintro q_ u2 ⟨rfl, hP, hk⟩
  have P2 := Lib.hid hP
  have K2 := Lib.hid (K1.out.trans hk)
  clear hP hk P1 K1
  go_wp2
  all_goals first | exact bodyPost_ret (v := .int .u8 rr) (by simp [results, Try.results31, go_sem]) rfl ⟨rfl, P2.out, K2.out⟩ | exact bodyPost_end (v := .int .u8 rr) (by simp [results, Try.results31, go_sem]) rfl ⟨rfl, P2.out, K2.out⟩
set_option maxHeartbeats 4000000 in
theorem rwr_4t (r v s : Nat) (m : M) (c : Int) (hc : m 8352 = c) (c0 : 0 ≤ c) (c1 : c < 256) (L : Int) (hL : m 8356 = L) (L0 : 0 ≤ L) (L1 : L < 256) (d : Int) (hd : m 8363 = d) (d0 : 0 ≤ d) (d1 : d < 256)  (x : Int) (x0 : 0 ≤ x) (x1 : x < 256) (hz : hidV (modeV c L d) 65348 = false) (hy : decide (128 ≤ c) = true) (m4 : M) (rr : Int) (HS : ∀ W, RU W r v s m → Calls Try.prog 51 #[.pointer (some ⟨r, 0, none⟩)] W fun q_ w' => q_ = .returned (.int .u8 rr) ∧ RU w' r v s m4 ∧ Keep3 r v s W w') (w : World) (h : RU w r v s m) : Calls Try.prog 31 #[.pointer (some ⟨r, 0, none⟩), .int .u16 65348, .int .u8 x] w fun q_ w' => q_ = .returned (.int .u8 rr) ∧ RU w' r v s (m4) ∧ Keep3 r v s w w' := by
  suffices hall : ∀ w0 : World, Keep3 r v s w0 w → Calls Try.prog 31 #[.pointer (some ⟨r, 0, none⟩), .int .u16 65348, .int .u8 x] w fun q_ w' => q_ = .returned (.int .u8 rr) ∧ RU w' r v s (m4) ∧ Keep3 r v s w0 w' from hall w (Keep3.refl r v s w)
  intro w0 hK
  have P0 := Lib.hid h
  have K0 := Lib.hid hK
  clear h hK
  have Hc := Lib.hid hc
  clear hc
  have HL := Lib.hid hL
  clear hL
  have Hd := Lib.hid hd
  clear hd
  have HZ := Lib.hid hz
  clear hz
  have HY := Lib.hid hy
  have SS := Lib.hid HS
  clear hy HS
  have hnot : ∀ (x : Bool) (w : World), (Op.unary .not (.bool x)).run Try.prog w = .ok (.bool (!x)) w := fun _ _ => rfl
  go_enter Try.func31, Try.ntmps31
  go_wp2_with (fail)
  with_reducible refine (rshut_c r v s m c Hc.out c0 c1 L HL.out L0 L1 d Hd.out d0 d1 65348 (by decide) (by decide) false HZ.out _ P0.out).mono ?_
  rintro q_ w' ⟨rfl, rfl⟩
  go_wp2_with (fail)
  with_reducible refine (ron_c r v s m c Hc.out c0 c1 true HY.out _ P0.out).mono ?_
  rintro q_ w' ⟨rfl, rfl⟩
  go_wp2_with (fail)
  with_reducible refine (ron_c r v s (m) c (Hc.out) c0 c1 true HY.out _ P0.out).mono ?_
  rintro q_ w' ⟨rfl, rfl⟩
  go_wp2_with (fail)
  with_reducible refine (SS.out _ P0.out).mono ?_
  rintro q_ u1 ⟨rfl, hP, hk⟩
  have P1 := Lib.hid hP
  have K1 := Lib.hid (K0.out.trans hk)
  clear hP hk P0 K0
  go_wp2
  all_goals first | exact bodyPost_ret (v := .int .u8 rr) (by simp [results, Try.results31, go_sem]) rfl ⟨rfl, P1.out, K1.out⟩ | exact bodyPost_end (v := .int .u8 rr) (by simp [results, Try.results31, go_sem]) rfl ⟨rfl, P1.out, K1.out⟩
set_option maxHeartbeats 4000000 in
theorem rwr_4f (r v s : Nat) (m : M) (c : Int) (hc : m 8352 = c) (c0 : 0 ≤ c) (c1 : c < 256) (L : Int) (hL : m 8356 = L) (L0 : 0 ≤ L) (L1 : L < 256) (d : Int) (hd : m 8363 = d) (d0 : 0 ≤ d) (d1 : d < 256)  (x : Int) (x0 : 0 ≤ x) (x1 : x < 256) (hz : hidV (modeV c L d) 65348 = false) (hy : decide (128 ≤ c) = false) (m4 : M) (rr : Int) (HS : ∀ W, RU W r v s m → Calls Try.prog 51 #[.pointer (some ⟨r, 0, none⟩)] W fun q_ w' => q_ = .returned (.int .u8 rr) ∧ RU w' r v s m4 ∧ Keep3 r v s W w') (w : World) (h : RU w r v s m) : Calls Try.prog 31 #[.pointer (some ⟨r, 0, none⟩), .int .u16 65348, .int .u8 x] w fun q_ w' => q_ = .returned (.int .u8 rr) ∧ RU w' r v s (m4) ∧ Keep3 r v s w w' := by
  suffices hall : ∀ w0 : World, Keep3 r v s w0 w → Calls Try.prog 31 #[.pointer (some ⟨r, 0, none⟩), .int .u16 65348, .int .u8 x] w fun q_ w' => q_ = .returned (.int .u8 rr) ∧ RU w' r v s (m4) ∧ Keep3 r v s w0 w' from hall w (Keep3.refl r v s w)
  intro w0 hK
  have P0 := Lib.hid h
  have K0 := Lib.hid hK
  clear h hK
  have Hc := Lib.hid hc
  clear hc
  have HL := Lib.hid hL
  clear hL
  have Hd := Lib.hid hd
  clear hd
  have HZ := Lib.hid hz
  clear hz
  have HY := Lib.hid hy
  have SS := Lib.hid HS
  clear hy HS
  have hnot : ∀ (x : Bool) (w : World), (Op.unary .not (.bool x)).run Try.prog w = .ok (.bool (!x)) w := fun _ _ => rfl
  go_enter Try.func31, Try.ntmps31
  go_wp2_with (fail)
  with_reducible refine (rshut_c r v s m c Hc.out c0 c1 L HL.out L0 L1 d Hd.out d0 d1 65348 (by decide) (by decide) false HZ.out _ P0.out).mono ?_
  rintro q_ w' ⟨rfl, rfl⟩
  go_wp2_with (fail)
  with_reducible refine (ron_c r v s m c Hc.out c0 c1 false HY.out _ P0.out).mono ?_
  rintro q_ w' ⟨rfl, rfl⟩
  go_wp2_with (fail)
  with_reducible refine (SS.out _ P0.out).mono ?_
  rintro q_ u1 ⟨rfl, hP, hk⟩
  have P1 := Lib.hid hP
  have K1 := Lib.hid (K0.out.trans hk)
  clear hP hk P0 K0
  go_wp2
  all_goals first | exact bodyPost_ret (v := .int .u8 rr) (by simp [results, Try.results31, go_sem]) rfl ⟨rfl, P1.out, K1.out⟩ | exact bodyPost_end (v := .int .u8 rr) (by simp [results, Try.results31, go_sem]) rfl ⟨rfl, P1.out, K1.out⟩
set_option maxHeartbeats 4000000 in
theorem rwr_0o (r v s : Nat) (m : M) (c : Int) (hc : m 8352 = c) (c0 : 0 ≤ c) (c1 : c < 256) (L : Int) (hL : m 8356 = L) (L0 : 0 ≤ L) (L1 : L < 256) (d : Int) (hd : m 8363 = d) (d0 : 0 ≤ d) (d1 : d < 256)  (x : Int) (x0 : 0 ≤ x) (x1 : x < 256) (hz : hidV (modeV c L d) 65344 = false) (hy : decide (128 ≤ c) = true) (hn : decide (128 ≤ x) = false) (m4 : M) (rr : Int) (HS : ∀ W, RU W r v s (upd (upd (upd (upd m 8352 x) 8356 0) 8363 0) 8364 0) → Calls Try.prog 51 #[.pointer (some ⟨r, 0, none⟩)] W fun q_ w' => q_ = .returned (.int .u8 rr) ∧ RU w' r v s m4 ∧ Keep3 r v s W w') (w : World) (h : RU w r v s m) : Calls Try.prog 31 #[.pointer (some ⟨r, 0, none⟩), .int .u16 65344, .int .u8 x] w fun q_ w' => q_ = .returned (.int .u8 rr) ∧ RU w' r v s (m4) ∧ Keep3 r v s w w' := by
  suffices hall : ∀ w0 : World, Keep3 r v s w0 w → Calls Try.prog 31 #[.pointer (some ⟨r, 0, none⟩), .int .u16 65344, .int .u8 x] w fun q_ w' => q_ = .returned (.int .u8 rr) ∧ RU w' r v s (m4) ∧ Keep3 r v s w0 w' from hall w (Keep3.refl r v s w)
  intro w0 hK
  have P0 := Lib.hid h
  have K0 := Lib.hid hK
  clear h hK
  have Hc := Lib.hid hc
  clear hc
  have HL := Lib.hid hL
  clear hL
  have Hd := Lib.hid hd
  clear hd
  have HZ := Lib.hid hz
  clear hz
  have HY := Lib.hid hy
  have SS := Lib.hid HS
  clear hy HS
  have HN := Lib.hid hn
  clear hn
  have hnot : ∀ (x : Bool) (w : World), (Op.unary .not (.bool x)).run Try.prog w = .ok (.bool (!x)) w := fun _ _ => rfl
  go_enter Try.func31, Try.ntmps31
  go_wp2_with (fail)
  with_reducible refine (rshut_c r v s m c Hc.out c0 c1 L HL.out L0 L1 d Hd.out d0 d1 65344 (by decide) (by decide) false HZ.out _ P0.out).mono ?_
  rintro q_ w' ⟨rfl, rfl⟩
  go_wp2_with (fail)
  with_reducible refine (ron_c r v s m c Hc.out c0 c1 true HY.out _ P0.out).mono ?_
  rintro q_ w' ⟨rfl, rfl⟩
  obtain ⟨hc, hf⟩ := P0.out.R.out
  go_wp2_with (refine store_ru P0.out.R rfl _ _ rfl _ rfl _ rfl (by omega) (by omega) (by omega) (by omega) ?_)
  intro u1 hP hk
  clear hc hf
  replace hP : Has u1 r (encR v s (upd m 8352 x)) := hP
  have P1 := Lib.hid (P0.out.setR 8352 (x) (by omega) hP hk)
  have K1 := Lib.hid (K0.out.trans (Keep3.ofR hk))
  clear hP hk P0 K0
  try simp only [Act.put]
  go_wp2_with (fail)
  with_reducible refine (ron_c r v s (upd m 8352 x) x (upd_same _ _ _) x0 x1 false HN.out _ P1.out).mono ?_
  rintro q_ w' ⟨rfl, rfl⟩
  obtain ⟨hc, hf⟩ := P1.out.R.out
  go_wp2_with (refine store_ri P1.out.R rfl _ _ rfl _ rfl _ rfl (by omega) (by omega) ?_)
  intro u2 hP hk
  clear hc hf
  replace hP : Has u2 r (encR v s (upd (upd m 8352 x) 8356 0)) := hP
  have P2 := Lib.hid (P1.out.setR 8356 (0) (by omega) hP hk)
  have K2 := Lib.hid (K1.out.trans (Keep3.ofR hk))
  clear hP hk P1 K1
  try simp only [Act.put]
  obtain ⟨hc, hf⟩ := P2.out.R.out
  go_wp2_with (refine store_ri P2.out.R rfl _ _ rfl _ rfl _ rfl (by omega) (by omega) ?_)
  intro u3 hP hk
  clear hc hf
  replace hP : Has u3 r (encR v s (upd (upd (upd m 8352 x) 8356 0) 8363 0)) := hP
  have P3 := Lib.hid (P2.out.setR 8363 (0) (by omega) hP hk)
  have K3 := Lib.hid (K2.out.trans (Keep3.ofR hk))
  clear hP hk P2 K2
  try simp only [Act.put]
  obtain ⟨hc, hf⟩ := P3.out.R.out
  go_wp2_with (refine store_ri P3.out.R rfl _ _ rfl _ rfl _ rfl (by omega) (by omega) ?_)
  intro u4 hP hk
  clear hc hf
  replace hP : Has u4 r (encR v s (upd (upd (upd (upd m 8352 x) 8356 0) 8363 0) 8364 0)) := hP
  have P4 := Lib.hid (P3.out.setR 8364 (0) (by omega) hP hk)
  have K4 := Lib.hid (K3.out.trans (Keep3.ofR hk))
  clear hP hk P3 K3
  try simp only [Act.put]
  go_wp2_with (fail)
  with_reducible refine (SS.out _ P4.out).mono ?_
  rintro q_ u5 ⟨rfl, hP, hk⟩
  have P5 := Lib.hid hP
  have K5 := Lib.hid (K4.out.trans hk)
  clear hP hk P4 K4
  go_wp2
  all_goals first | exact bodyPost_ret (v := .int .u8 rr) (by simp [results, Try.results31, go_sem]) rfl ⟨rfl, P5.out, K5.out⟩ | exact bodyPost_end (v := .int .u8 rr) (by simp [results, Try.results31, go_sem]) rfl ⟨rfl, P5.out, K5.out⟩
set_option maxHeartbeats 4000000 in
theorem rwr_0n (r v s : Nat) (m : M) (c : Int) (hc : m 8352 = c) (c0 : 0 ≤ c) (c1 : c < 256) (L : Int) (hL : m 8356 = L) (L0 : 0 ≤ L) (L1 : L < 256) (d : Int) (hd : m 8363 = d) (d0 : 0 ≤ d) (d1 : d < 256)  (x : Int) (x0 : 0 ≤ x) (x1 : x < 256) (hz : hidV (modeV c L d) 65344 = false) (hy : decide (128 ≤ c) = true) (hn : decide (128 ≤ x) = true) (m4 : M) (rr : Int) (HS : ∀ W, RU W r v s (upd m 8352 x) → Calls Try.prog 51 #[.pointer (some ⟨r, 0, none⟩)] W fun q_ w' => q_ = .returned (.int .u8 rr) ∧ RU w' r v s m4 ∧ Keep3 r v s W w') (w : World) (h : RU w r v s m) : Calls Try.prog 31 #[.pointer (some ⟨r, 0, none⟩), .int .u16 65344, .int .u8 x] w fun q_ w' => q_ = .returned (.int .u8 rr) ∧ RU w' r v s (m4) ∧ Keep3 r v s w w' := by
  suffices hall : ∀ w0 : World, Keep3 r v s w0 w → Calls Try.prog 31 #[.pointer (some ⟨r, 0, none⟩), .int .u16 65344, .int .u8 x] w fun q_ w' => q_ = .returned (.int .u8 rr) ∧ RU w' r v s (m4) ∧ Keep3 r v s w0 w' from hall w (Keep3.refl r v s w)
  intro w0 hK
  have P0 := Lib.hid h
  have K0 := Lib.hid hK
  clear h hK
  have Hc := Lib.hid hc
  clear hc
  have HL := Lib.hid hL
  clear hL
  have Hd := Lib.hid hd
  clear hd
  have HZ := Lib.hid hz
  clear hz
  have HY := Lib.hid hy
  have SS := Lib.hid HS
  clear hy HS
  have HN := Lib.hid hn
  clear hn
  have hnot : ∀ (x : Bool) (w : World), (Op.unary .not (.bool x)).run Try.prog w = .ok (.bool (!x)) w := fun _ _ => rfl
  go_enter Try.func31, Try.ntmps31
  go_wp2_with (fail)
  with_reducible refine (rshut_c r v s m c Hc.out c0 c1 L HL.out L0 L1 d Hd.out d0 d1 65344 (by decide) (by decide) false HZ.out _ P0.out).mono ?_
  rintro q_ w' ⟨rfl, rfl⟩
  go_wp2_with (fail)
  with_reducible refine (ron_c r v s m c Hc.out c0 c1 true HY.out _ P0.out).mono ?_
  rintro q_ w' ⟨rfl, rfl⟩
  obtain ⟨hc, hf⟩ := P0.out.R.out
  go_wp2_with (refine store_ru P0.out.R rfl _ _ rfl _ rfl _ rfl (by omega) (by omega) (by omega) (by omega) ?_)
  intro u1 hP hk
  clear hc hf
  replace hP : Has u1 r (encR v s (upd m 8352 x)) := hP
  have P1 := Lib.hid (P0.out.setR 8352 (x) (by omega) hP hk)
  have K1 := Lib.hid (K0.out.trans (Keep3.ofR hk))
  clear hP hk P0 K0
  try simp only [Act.put]
  go_wp2_with (fail)
  with_reducible refine (ron_c r v s (upd m 8352 x) x (upd_same _ _ _) x0 x1 true HN.out _ P1.out).mono ?_
  rintro q_ w' ⟨rfl, rfl⟩
  go_wp2_with (fail)
  with_reducible refine (SS.out _ P1.out).mono ?_
  rintro q_ u2 ⟨rfl, hP, hk⟩
  have P2 := Lib.hid hP
  have K2 := Lib.hid (K1.out.trans hk)
  clear hP hk P1 K1
  go_wp2
  all_goals first | exact bodyPost_ret (v := .int .u8 rr) (by simp [results, Try.results31, go_sem]) rfl ⟨rfl, P2.out, K2.out⟩ | exact bodyPost_end (v := .int .u8 rr) (by simp [results, Try.results31, go_sem]) rfl ⟨rfl, P2.out, K2.out⟩
set_option maxHeartbeats 4000000 in
theorem rwr_0f (r v s : Nat) (m : M) (c : Int) (hc : m 8352 = c) (c0 : 0 ≤ c) (c1 : c < 256) (L : Int) (hL : m 8356 = L) (L0 : 0 ≤ L) (L1 : L < 256) (d : Int) (hd : m 8363 = d) (d0 : 0 ≤ d) (d1 : d < 256)  (x : Int) (x0 : 0 ≤ x) (x1 : x < 256) (hz : hidV (modeV c L d) 65344 = false) (hy : decide (128 ≤ c) = false) (m4 : M) (rr : Int) (HS : ∀ W, RU W r v s (upd m 8352 x) → Calls Try.prog 51 #[.pointer (some ⟨r, 0, none⟩)] W fun q_ w' => q_ = .returned (.int .u8 rr) ∧ RU w' r v s m4 ∧ Keep3 r v s W w') (w : World) (h : RU w r v s m) : Calls Try.prog 31 #[.pointer (some ⟨r, 0, none⟩), .int .u16 65344, .int .u8 x] w fun q_ w' => q_ = .returned (.int .u8 rr) ∧ RU w' r v s (m4) ∧ Keep3 r v s w w' := by
  suffices hall : ∀ w0 : World, Keep3 r v s w0 w → Calls Try.prog 31 #[.pointer (some ⟨r, 0, none⟩), .int .u16 65344, .int .u8 x] w fun q_ w' => q_ = .returned (.int .u8 rr) ∧ RU w' r v s (m4) ∧ Keep3 r v s w0 w' from hall w (Keep3.refl r v s w)
  intro w0 hK
  have P0 := Lib.hid h
  have K0 := Lib.hid hK
  clear h hK
  have Hc := Lib.hid hc
  clear hc
  have HL := Lib.hid hL
  clear hL
  have Hd := Lib.hid hd
  clear hd
  have HZ := Lib.hid hz
  clear hz
  have HY := Lib.hid hy
  have SS := Lib.hid HS
  clear hy HS
  have hnot : ∀ (x : Bool) (w : World), (Op.unary .not (.bool x)).run Try.prog w = .ok (.bool (!x)) w := fun _ _ => rfl
  go_enter Try.func31, Try.ntmps31
  go_wp2_with (fail)
  with_reducible refine (rshut_c r v s m c Hc.out c0 c1 L HL.out L0 L1 d Hd.out d0 d1 65344 (by decide) (by decide) false HZ.out _ P0.out).mono ?_
  rintro q_ w' ⟨rfl, rfl⟩
  go_wp2_with (fail)
  with_reducible refine (ron_c r v s m c Hc.out c0 c1 false HY.out _ P0.out).mono ?_
  rintro q_ w' ⟨rfl, rfl⟩
  obtain ⟨hc, hf⟩ := P0.out.R.out
  go_wp2_with (refine store_ru P0.out.R rfl _ _ rfl _ rfl _ rfl (by omega) (by omega) (by omega) (by omega) ?_)
  intro u1 hP hk
  clear hc hf
  replace hP : Has u1 r (encR v s (upd m 8352 x)) := hP
  have P1 := Lib.hid (P0.out.setR 8352 (x) (by omega) hP hk)
  have K1 := Lib.hid (K0.out.trans (Keep3.ofR hk))
  clear hP hk P0 K0
  try simp only [Act.put]
  go_wp2_with (fail)
  with_reducible refine (SS.out _ P1.out).mono ?_
  rintro q_ u2 ⟨rfl, hP, hk⟩
  have P2 := Lib.hid hP
  have K2 := Lib.hid (K1.out.trans hk)
  clear hP hk P1 K1
  go_wp2
  all_goals first | exact bodyPost_ret (v := .int .u8 rr) (by simp [results, Try.results31, go_sem]) rfl ⟨rfl, P2.out, K2.out⟩ | exact bodyPost_end (v := .int .u8 rr) (by simp [results, Try.results31, go_sem]) rfl ⟨rfl, P2.out, K2.out⟩
set_option maxHeartbeats 4000000 in
theorem rwr_rt (r v s : Nat) (m : M) (c : Int) (hc : m 8352 = c) (c0 : 0 ≤ c) (c1 : c < 256) (L : Int) (hL : m 8356 = L) (L0 : 0 ≤ L) (L1 : L < 256) (d : Int) (hd : m 8363 = d) (d0 : 0 ≤ d) (d1 : d < 256)  (a : Int) (a0 : 0 ≤ a) (a1 : a < 65536) (x : Int) (x0 : 0 ≤ x) (x1 : x < 256) (hz : hidV (modeV c L d) a = false) (hy : decide (128 ≤ c) = true) (n : Nat) (hn : a = 65344 + n) (n1 : n < 12) (n0 : 0 < n) (n2 : n ≠ 1) (n4 : n ≠ 4) (n6 : n ≠ 6) (m4 : M) (rr : Int) (HS : ∀ W, RU W r v s (upd m (rp (2 + n)) x) → Calls Try.prog 51 #[.pointer (some ⟨r, 0, none⟩)] W fun q_ w' => q_ = .returned (.int .u8 rr) ∧ RU w' r v s m4 ∧ Keep3 r v s W w') (w : World) (h : RU w r v s m) : Calls Try.prog 31 #[.pointer (some ⟨r, 0, none⟩), .int .u16 a, .int .u8 x] w fun q_ w' => q_ = .returned (.int .u8 rr) ∧ RU w' r v s (m4) ∧ Keep3 r v s w w' := by
  suffices hall : ∀ w0 : World, Keep3 r v s w0 w → Calls Try.prog 31 #[.pointer (some ⟨r, 0, none⟩), .int .u16 a, .int .u8 x] w fun q_ w' => q_ = .returned (.int .u8 rr) ∧ RU w' r v s (m4) ∧ Keep3 r v s w0 w' from hall w (Keep3.refl r v s w)
  intro w0 hK
  have P0 := Lib.hid h
  have K0 := Lib.hid hK
  clear h hK
  have Hc := Lib.hid hc
  clear hc
  have HL := Lib.hid hL
  clear hL
  have Hd := Lib.hid hd
  clear hd
  have HZ := Lib.hid hz
  clear hz
  have HY := Lib.hid hy
  have SS := Lib.hid HS
  clear hy HS
  have w1 : IntKind.i64.wrap (a - 65344) = n := by rw [IntKind.wrap_i64]; omega
  have k2 : (n : Int) < 12 := by omega
  have g1 : 32768 ≤ a := by omega
  have g : ¬ a < 40960 := by omega
  have g2 : 65024 ≤ a := by omega
  have g3 : ¬ a < 65184 := by omega
  have g4 : ¬ a < 65344 := by omega
  have g5 : ¬ 65355 < a := by omega
  have q0 : (a == 65350) = false := by simp; omega
  have q1 : (a == 65345) = false := by simp; omega
  have q2 : (a == 65348) = false := by simp; omega
  have q3 : 8352 < rp (2 + n) := by rw [rp_reg n n1 n4 n6]; split <;> omega
  clear hn
  have hnot : ∀ (x : Bool) (w : World), (Op.unary .not (.bool x)).run Try.prog w = .ok (.bool (!x)) w := fun _ _ => rfl
  go_enter Try.func31, Try.ntmps31
  go_wp2_with (fail)
  with_reducible refine (rshut_c r v s m c Hc.out c0 c1 L HL.out L0 L1 d Hd.out d0 d1 a a0 a1 false HZ.out _ P0.out).mono ?_
  rintro q_ w' ⟨rfl, rfl⟩
  go_wp2_with (fail)
  with_reducible refine (ron_c r v s m c Hc.out c0 c1 true HY.out _ P0.out).mono ?_
  rintro q_ w' ⟨rfl, rfl⟩
  obtain ⟨hc, hf⟩ := P0.out.R.out
  go_wp2_with (refine store_ru P0.out.R rfl _ _ rfl _ rfl _ rfl (by omega) (by omega) (by omega) (by omega) ?_)
  intro u1 hP hk
  clear hc hf
  replace hP : Has u1 r (encR v s (upd m (rp (2 + n)) x)) := hP
  have P1 := Lib.hid (P0.out.setR ((rp (2 + n))) (x) (by omega) hP hk)
  have K1 := Lib.hid (K0.out.trans (Keep3.ofR hk))
  clear hP hk P0 K0
  try simp only [Act.put]
  go_wp2_with (fail)
  with_reducible refine (ron_c r v s (upd m (rp (2 + n)) x) c ((upd_ne _ _ _ _ (by omega)).trans Hc.out) c0 c1 true HY.out _ P1.out).mono ?_
  rintro q_ w' ⟨rfl, rfl⟩
  go_wp2_with (fail)
  with_reducible refine (SS.out _ P1.out).mono ?_
  rintro q_ u2 ⟨rfl, hP, hk⟩
  have P2 := Lib.hid hP
  have K2 := Lib.hid (K1.out.trans hk)
  clear hP hk P1 K1
  go_wp2
  all_goals first | exact bodyPost_ret (v := .int .u8 rr) (by simp [results, Try.results31, go_sem]) rfl ⟨rfl, P2.out, K2.out⟩ | exact bodyPost_end (v := .int .u8 rr) (by simp [results, Try.results31, go_sem]) rfl ⟨rfl, P2.out, K2.out⟩
set_option maxHeartbeats 4000000 in
theorem rwr_rf (r v s : Nat) (m : M) (c : Int) (hc : m 8352 = c) (c0 : 0 ≤ c) (c1 : c < 256) (L : Int) (hL : m 8356 = L) (L0 : 0 ≤ L) (L1 : L < 256) (d : Int) (hd : m 8363 = d) (d0 : 0 ≤ d) (d1 : d < 256)  (a : Int) (a0 : 0 ≤ a) (a1 : a < 65536) (x : Int) (x0 : 0 ≤ x) (x1 : x < 256) (hz : hidV (modeV c L d) a = false) (hy : decide (128 ≤ c) = false) (n : Nat) (hn : a = 65344 + n) (n1 : n < 12) (n0 : 0 < n) (n2 : n ≠ 1) (n4 : n ≠ 4) (n6 : n ≠ 6) (m4 : M) (rr : Int) (HS : ∀ W, RU W r v s (upd m (rp (2 + n)) x) → Calls Try.prog 51 #[.pointer (some ⟨r, 0, none⟩)] W fun q_ w' => q_ = .returned (.int .u8 rr) ∧ RU w' r v s m4 ∧ Keep3 r v s W w') (w : World) (h : RU w r v s m) : Calls Try.prog 31 #[.pointer (some ⟨r, 0, none⟩), .int .u16 a, .int .u8 x] w fun q_ w' => q_ = .returned (.int .u8 rr) ∧ RU w' r v s (m4) ∧ Keep3 r v s w w' := by
  suffices hall : ∀ w0 : World, Keep3 r v s w0 w → Calls Try.prog 31 #[.pointer (some ⟨r, 0, none⟩), .int .u16 a, .int .u8 x] w fun q_ w' => q_ = .returned (.int .u8 rr) ∧ RU w' r v s (m4) ∧ Keep3 r v s w0 w' from hall w (Keep3.refl r v s w)
  intro w0 hK
  have P0 := Lib.hid h
  have K0 := Lib.hid hK
  clear h hK
  have Hc := Lib.hid hc
  clear hc
  have HL := Lib.hid hL
  clear hL
  have Hd := Lib.hid hd
  clear hd
  have HZ := Lib.hid hz
  clear hz
  have HY := Lib.hid hy
  have SS := Lib.hid HS
  clear hy HS
  have w1 : IntKind.i64.wrap (a - 65344) = n := by rw [IntKind.wrap_i64]; omega
  have k2 : (n : Int) < 12 := by omega
  have g1 : 32768 ≤ a := by omega
  have g : ¬ a < 40960 := by omega
  have g2 : 65024 ≤ a := by omega
  have g3 : ¬ a < 65184 := by omega
  have g4 : ¬ a < 65344 := by omega
  have g5 : ¬ 65355 < a := by omega
  have q0 : (a == 65350) = false := by simp; omega
  have q1 : (a == 65345) = false := by simp; omega
  have q2 : (a == 65348) = false := by simp; omega
  have q3 : 8352 < rp (2 + n) := by rw [rp_reg n n1 n4 n6]; split <;> omega
  clear hn
  have hnot : ∀ (x : Bool) (w : World), (Op.unary .not (.bool x)).run Try.prog w = .ok (.bool (!x)) w := fun _ _ => rfl
  go_enter Try.func31, Try.ntmps31
  go_wp2_with (fail)
  with_reducible refine (rshut_c r v s m c Hc.out c0 c1 L HL.out L0 L1 d Hd.out d0 d1 a a0 a1 false HZ.out _ P0.out).mono ?_
  rintro q_ w' ⟨rfl, rfl⟩
  go_wp2_with (fail)
  with_reducible refine (ron_c r v s m c Hc.out c0 c1 false HY.out _ P0.out).mono ?_
  rintro q_ w' ⟨rfl, rfl⟩
  obtain ⟨hc, hf⟩ := P0.out.R.out
  go_wp2_with (refine store_ru P0.out.R rfl _ _ rfl _ rfl _ rfl (by omega) (by omega) (by omega) (by omega) ?_)
  intro u1 hP hk
  clear hc hf
  replace hP : Has u1 r (encR v s (upd m (rp (2 + n)) x)) := hP
  have P1 := Lib.hid (P0.out.setR ((rp (2 + n))) (x) (by omega) hP hk)
  have K1 := Lib.hid (K0.out.trans (Keep3.ofR hk))
  clear hP hk P0 K0
  try simp only [Act.put]
  go_wp2_with (fail)
  with_reducible refine (SS.out _ P1.out).mono ?_
  rintro q_ u2 ⟨rfl, hP, hk⟩
  have P2 := Lib.hid hP
  have K2 := Lib.hid (K1.out.trans hk)
  clear hP hk P1 K1
  go_wp2
  all_goals first | exact bodyPost_ret (v := .int .u8 rr) (by simp [results, Try.results31, go_sem]) rfl ⟨rfl, P2.out, K2.out⟩ | exact bodyPost_end (v := .int .u8 rr) (by simp [results, Try.results31, go_sem]) rfl ⟨rfl, P2.out, K2.out⟩
/-- A write. -/
theorem rwrite_c (r v s : Nat) (m : M) (ok : Ok m) (a : Int) (a0 : 0 ≤ a) (a1 : a < 65536) (x : Int) (x0 : 0 ≤ x) (x1 : x < 256) (w : World) (h : RU w r v s m) : Calls Try.prog 31 #[.pointer (some ⟨r, 0, none⟩), .int .u16 a, .int .u8 x] w fun q_ w' => q_ = .returned (.int .u8 (writeR m a x)) ∧ RU w' r v s (writeM m a x) ∧ Keep3 r v s w w' := by
  have B := ok.byte
  unfold writeR writeM
  by_cases hz : hidV (modeM m) a = true
  · rw [if_pos hz, if_pos hz]; exact rwr_h r v s m _ rfl (B 8352 (by decide) (by decide)).1 (B 8352 (by decide) (by decide)).2 _ rfl (B 8356 (by decide) (by decide)).1 (B 8356 (by decide) (by decide)).2 _ rfl (B 8363 (by decide) (by decide)).1 (B 8363 (by decide) (by decide)).2 a a0 a1 x x0 x1 hz w h
  · rw [if_neg hz, if_neg hz]
    have hz' : hidV (modeM m) a = false := by simpa using hz
    unfold putR putM
    by_cases hr : 65344 ≤ a ∧ a ≤ 65355 ∧ a ≠ 65350
    · have hR : isR a = true := by unfold isR; simp; omega
      rw [if_pos hR, if_pos hR]
      have HS := fun W hW => rstat_c r v s _ (ok_set ok _ (regno_bd a hR) x ⟨x0, x1⟩) W hW
      obtain ⟨n, hn⟩ : ∃ n : Nat, a = 65344 + n := ⟨(a - 65344).toNat, by omega⟩
      by_cases n0 : n = 0
      · have e : a = 65344 := by omega
        subst e
        rw [show regno 65344 = 0 from by decide] at HS ⊢
        have es : setM m 0 x = ctlM m x := by unfold setM; rw [if_neg (by decide), if_neg (by decide), if_pos rfl]
        rw [es] at HS ⊢
        by_cases g : 128 ≤ m 8352
        · by_cases g2 : x < 128
          · have ec : ctlM m x = upd (upd (upd (upd m 8352 x) 8356 0) 8363 0) 8364 0 := by unfold ctlM; rw [if_pos ⟨g, g2⟩]
            rw [ec] at HS ⊢
            exact rwr_0o r v s m _ rfl (B 8352 (by decide) (by decide)).1 (B 8352 (by decide) (by decide)).2 _ rfl (B 8356 (by decide) (by decide)).1 (B 8356 (by decide) (by decide)).2 _ rfl (B 8363 (by decide) (by decide)).1 (B 8363 (by decide) (by decide)).2 x x0 x1 hz' (by simpa using g) (by simpa using g2) _ _ HS w h
          · have ec : ctlM m x = upd m 8352 x := by unfold ctlM; rw [if_neg (fun q => g2 q.2)]
            rw [ec] at HS ⊢
            exact rwr_0n r v s m _ rfl (B 8352 (by decide) (by decide)).1 (B 8352 (by decide) (by decide)).2 _ rfl (B 8356 (by decide) (by decide)).1 (B 8356 (by decide) (by decide)).2 _ rfl (B 8363 (by decide) (by decide)).1 (B 8363 (by decide) (by decide)).2 x x0 x1 hz' (by simpa using g) (by simp; omega) _ _ HS w h
        · have ec : ctlM m x = upd m 8352 x := by unfold ctlM; rw [if_neg (fun q => g q.1)]
          rw [ec] at HS ⊢
          exact rwr_0f r v s m _ rfl (B 8352 (by decide) (by decide)).1 (B 8352 (by decide) (by decide)).2 _ rfl (B 8356 (by decide) (by decide)).1 (B 8356 (by decide) (by decide)).2 _ rfl (B 8363 (by decide) (by decide)).1 (B 8363 (by decide) (by decide)).2 x x0 x1 hz' (by simpa using g) _ _ HS w h
      · by_cases n1 : n = 1
        · have e : a = 65345 := by omega
          subst e
          rw [show regno 65345 = 1 from by decide] at HS ⊢
          have es : setM m 1 x = upd m 8353 (x / 8 % 16 * 8) := by unfold setM; rw [if_pos rfl]
          rw [es] at HS ⊢
          by_cases g : 128 ≤ m 8352
          · exact rwr_1t r v s m _ rfl (B 8352 (by decide) (by decide)).1 (B 8352 (by decide) (by decide)).2 _ rfl (B 8356 (by decide) (by decide)).1 (B 8356 (by decide) (by decide)).2 _ rfl (B 8363 (by decide) (by decide)).1 (B 8363 (by decide) (by decide)).2 x x0 x1 hz' (by simpa using g) _ _ HS w h
          · exact rwr_1f r v s m _ rfl (B 8352 (by decide) (by decide)).1 (B 8352 (by decide) (by decide)).2 _ rfl (B 8356 (by decide) (by decide)).1 (B 8356 (by decide) (by decide)).2 _ rfl (B 8363 (by decide) (by decide)).1 (B 8363 (by decide) (by decide)).2 x x0 x1 hz' (by simpa using g) _ _ HS w h
        · by_cases n4 : n = 4
          · have e : a = 65348 := by omega
            subst e
            rw [show regno 65348 = 4 from by decide] at HS ⊢
            have es : setM m 4 x = m := by unfold setM; rw [if_neg (by decide), if_pos rfl]
            rw [es] at HS ⊢
            by_cases g : 128 ≤ m 8352
            · exact rwr_4t r v s m _ rfl (B 8352 (by decide) (by decide)).1 (B 8352 (by decide) (by decide)).2 _ rfl (B 8356 (by decide) (by decide)).1 (B 8356 (by decide) (by decide)).2 _ rfl (B 8363 (by decide) (by decide)).1 (B 8363 (by decide) (by decide)).2 x x0 x1 hz' (by simpa using g) _ _ HS w h
            · exact rwr_4f r v s m _ rfl (B 8352 (by decide) (by decide)).1 (B 8352 (by decide) (by decide)).2 _ rfl (B 8356 (by decide) (by decide)).1 (B 8356 (by decide) (by decide)).2 _ rfl (B 8363 (by decide) (by decide)).1 (B 8363 (by decide) (by decide)).2 x x0 x1 hz' (by simpa using g) _ _ HS w h
          · have hk : regno a ≠ 0 ∧ regno a ≠ 1 ∧ regno a ≠ 4 ∧ 8352 + regno a = rp (2 + n) := by
              rw [rp_reg n (by omega) n4 (by omega)]
              unfold regno
              split <;> split <;> omega
            have es : setM m (regno a) x = upd m (rp (2 + n)) x := by unfold setM; rw [if_neg hk.2.1, if_neg hk.2.2.1, if_neg hk.1, hk.2.2.2]
            rw [es] at HS ⊢
            by_cases g : 128 ≤ m 8352
            · exact rwr_rt r v s m _ rfl (B 8352 (by decide) (by decide)).1 (B 8352 (by decide) (by decide)).2 _ rfl (B 8356 (by decide) (by decide)).1 (B 8356 (by decide) (by decide)).2 _ rfl (B 8363 (by decide) (by decide)).1 (B 8363 (by decide) (by decide)).2 a a0 a1 x x0 x1 hz' (by simpa using g) n hn (by omega) (by omega) n1 n4 (by omega) _ _ HS w h
            · exact rwr_rf r v s m _ rfl (B 8352 (by decide) (by decide)).1 (B 8352 (by decide) (by decide)).2 _ rfl (B 8356 (by decide) (by decide)).1 (B 8356 (by decide) (by decide)).2 _ rfl (B 8363 (by decide) (by decide)).1 (B 8363 (by decide) (by decide)).2 a a0 a1 x x0 x1 hz' (by simpa using g) n hn (by omega) (by omega) n1 n4 (by omega) _ _ HS w h
    · have hR : ¬ isR a = true := by unfold isR; simp; omega
      rw [if_neg hR, if_neg hR]
      by_cases hv : 32768 ≤ a ∧ a < 40960
      · rw [if_pos ((isV_iff a).2 hv)]
        exact rwr_v r v s m _ rfl (B 8352 (by decide) (by decide)).1 (B 8352 (by decide) (by decide)).2 _ rfl (B 8356 (by decide) (by decide)).1 (B 8356 (by decide) (by decide)).2 _ rfl (B 8363 (by decide) (by decide)).1 (B 8363 (by decide) (by decide)).2 a a0 a1 x x0 x1 hz' (a - 32768).toNat (by omega) (by omega) w h
      · rw [isV_no a hv, if_neg (by decide)]
        by_cases ho : 65024 ≤ a ∧ a < 65184
        · rw [if_pos ((isO_iff a).2 ho)]
          exact rwr_o r v s m _ rfl (B 8352 (by decide) (by decide)).1 (B 8352 (by decide) (by decide)).2 _ rfl (B 8356 (by decide) (by decide)).1 (B 8356 (by decide) (by decide)).2 _ rfl (B 8363 (by decide) (by decide)).1 (B 8363 (by decide) (by decide)).2 a a0 a1 x x0 x1 hz' (a - 65024).toNat (by omega) (by omega) w h
        · rw [isO_no a ho, if_neg (by decide)]
          by_cases g1 : a < 32768
          · exact rwr_lo r v s m _ rfl (B 8352 (by decide) (by decide)).1 (B 8352 (by decide) (by decide)).2 _ rfl (B 8356 (by decide) (by decide)).1 (B 8356 (by decide) (by decide)).2 _ rfl (B 8363 (by decide) (by decide)).1 (B 8363 (by decide) (by decide)).2 a a0 a1 x x0 x1 hz' g1 w h
          · by_cases g2 : a < 65024
            · exact rwr_md r v s m _ rfl (B 8352 (by decide) (by decide)).1 (B 8352 (by decide) (by decide)).2 _ rfl (B 8356 (by decide) (by decide)).1 (B 8356 (by decide) (by decide)).2 _ rfl (B 8363 (by decide) (by decide)).1 (B 8363 (by decide) (by decide)).2 a a0 a1 x x0 x1 hz' (by omega) g2 w h
            · by_cases g3 : a < 65344
              · exact rwr_gp r v s m _ rfl (B 8352 (by decide) (by decide)).1 (B 8352 (by decide) (by decide)).2 _ rfl (B 8356 (by decide) (by decide)).1 (B 8356 (by decide) (by decide)).2 _ rfl (B 8363 (by decide) (by decide)).1 (B 8363 (by decide) (by decide)).2 a a0 a1 x x0 x1 hz' (by omega) g3 w h
              · by_cases g4 : 65355 < a
                · exact rwr_hi r v s m _ rfl (B 8352 (by decide) (by decide)).1 (B 8352 (by decide) (by decide)).2 _ rfl (B 8356 (by decide) (by decide)).1 (B 8356 (by decide) (by decide)).2 _ rfl (B 8363 (by decide) (by decide)).1 (B 8363 (by decide) (by decide)).2 a a0 a1 x x0 x1 hz' g4 w h
                · have e : a = 65350 := by omega
                  subst e
                  exact rwr_50 r v s m _ rfl (B 8352 (by decide) (by decide)).1 (B 8352 (by decide) (by decide)).2 _ rfl (B 8356 (by decide) (by decide)).1 (B 8356 (by decide) (by decide)).2 _ rfl (B 8363 (by decide) (by decide)).1 (B 8363 (by decide) (by decide)).2 x x0 x1 hz' w h
end Go.Proofs.Ytpfbodmadmneiaa
