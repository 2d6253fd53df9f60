/-
  A write: for every unit as it can be; no other condition but that each number fits.
-/
import Derived.Test.YtpfbodmadmneiaaPb
import Derived.Deep.Cut
import Derived.BigQuiet
import Derived.WalkSmall
namespace Go.Proofs.Ytpfbodmadmneiaa
open Go.ChangeShapes Go.WideShapes Go.ChangeAt Go.RowKit
set_option linter.unusedVariables false
set_option linter.unusedSimpArgs false
set_option maxRecDepth 100000
set_option maxHeartbeats 2000000 in
theorem ctl_off (b : Nat) (m : M) (c : Int) (hc : m 8352 = c) (c0 : 0 ≤ c) (c1 : c < 256)  (x : Int) (x0 : 0 ≤ x) (x1 : x < 256) (hz : decide (128 ≤ c) = true) (hy : decide (128 ≤ x) = false) (w : World) (h : Has w b (encU m)) : Calls Try.prog 55 #[.pointer (some ⟨b, 0, none⟩), .int .u8 x] w fun q_ w' => q_ = .returned (.tuple #[]) ∧ Has w' b (encU (upd (upd (upd (upd m 8352 x) 8356 0) 8363 0) 8364 0)) ∧ Keeps b w w' := by
  suffices hall : ∀ w0 : World, Keeps b w0 w → Calls Try.prog 55 #[.pointer (some ⟨b, 0, none⟩), .int .u8 x] w fun q_ w' => q_ = .returned (.tuple #[]) ∧ Has w' b (encU (upd (upd (upd (upd m 8352 x) 8356 0) 8363 0) 8364 0)) ∧ Keeps b w0 w' from hall w (Keeps.refl b w)
  intro w0 hK
  have P0 := Lib.hid h
  have K0 := Lib.hid hK
  clear h hK
  have Hc := Lib.hid hc
  clear hc
  have HZ := Lib.hid hz
  clear hz
  have HY := Lib.hid hy
  clear hy
  have hnot : ∀ (x : Bool) (w : World), (Op.unary .not (.bool x)).run Try.prog w = .ok (.bool (!x)) w := fun _ _ => rfl
  go_enter Try.func55, Try.ntmps55
  go_wp2_with (fail)
  with_reducible refine (on_c b m c Hc.out c0 c1 true HZ.out _ P0.out).mono ?_
  rintro q_ w' ⟨rfl, rfl⟩
  obtain ⟨hc, hf⟩ := P0.out.out
  go_wp2_with (refine ust_u P0.out rfl _ _ rfl _ rfl _ rfl (by omega) (by omega) (by omega) ?_)
  intro u1 hP hk
  clear hc hf
  replace hP : Has u1 b (encU (upd m 8352 x)) := hP
  have P1 := Lib.hid hP
  have K1 := Lib.hid (K0.out.trans hk)
  clear hP hk P0 K0
  try simp only [Act.put]
  go_wp2_with (fail)
  with_reducible refine (on_c b (upd m 8352 x) x (upd_same _ _ _) x0 x1 false HY.out _ P1.out).mono ?_
  rintro q_ w' ⟨rfl, rfl⟩
  obtain ⟨hc, hf⟩ := P1.out.out
  go_wp2_with (refine ust_u P1.out rfl _ _ rfl _ rfl _ rfl (by omega) (by omega) (by omega) ?_)
  intro u2 hP hk
  clear hc hf
  replace hP : Has u2 b (encU (upd (upd m 8352 x) 8356 0)) := hP
  have P2 := Lib.hid hP
  have K2 := Lib.hid (K1.out.trans hk)
  clear hP hk P1 K1
  try simp only [Act.put]
  obtain ⟨hc, hf⟩ := P2.out.out
  go_wp2_with (refine ust_u P2.out rfl _ _ rfl _ rfl _ rfl (by omega) (by omega) (by omega) ?_)
  intro u3 hP hk
  clear hc hf
  replace hP : Has u3 b (encU (upd (upd (upd m 8352 x) 8356 0) 8363 0)) := hP
  have P3 := Lib.hid hP
  have K3 := Lib.hid (K2.out.trans hk)
  clear hP hk P2 K2
  try simp only [Act.put]
  obtain ⟨hc, hf⟩ := P3.out.out
  go_wp2_with (refine ust_u P3.out rfl _ _ rfl _ rfl _ rfl (by omega) (by omega) (by omega) ?_)
  intro u4 hP hk
  clear hc hf
  replace hP : Has u4 b (encU (upd (upd (upd (upd m 8352 x) 8356 0) 8363 0) 8364 0)) := hP
  have P4 := Lib.hid hP
  have K4 := Lib.hid (K3.out.trans hk)
  clear hP hk P3 K3
  try simp only [Act.put]
  go_wp2
  all_goals first | exact bodyPost_ret (v := .tuple #[]) (by simp [results, Try.results55, go_sem]) rfl ⟨rfl, P4.out, K4.out⟩ | exact bodyPost_end (v := .tuple #[]) (by simp [results, Try.results55, go_sem]) rfl ⟨rfl, P4.out, K4.out⟩
set_option maxHeartbeats 2000000 in
theorem ctl_on (b : Nat) (m : M) (c : Int) (hc : m 8352 = c) (c0 : 0 ≤ c) (c1 : c < 256)  (x : Int) (x0 : 0 ≤ x) (x1 : x < 256) (hz : decide (128 ≤ c) = true) (hy : decide (128 ≤ x) = true) (w : World) (h : Has w b (encU m)) : Calls Try.prog 55 #[.pointer (some ⟨b, 0, none⟩), .int .u8 x] w fun q_ w' => q_ = .returned (.tuple #[]) ∧ Has w' b (encU (upd m 8352 x)) ∧ Keeps b w w' := by
  suffices hall : ∀ w0 : World, Keeps b w0 w → Calls Try.prog 55 #[.pointer (some ⟨b, 0, none⟩), .int .u8 x] w fun q_ w' => q_ = .returned (.tuple #[]) ∧ Has w' b (encU (upd m 8352 x)) ∧ Keeps b w0 w' from hall w (Keeps.refl b w)
  intro w0 hK
  have P0 := Lib.hid h
  have K0 := Lib.hid hK
  clear h hK
  have Hc := Lib.hid hc
  clear hc
  have HZ := Lib.hid hz
  clear hz
  have HY := Lib.hid hy
  clear hy
  have hnot : ∀ (x : Bool) (w : World), (Op.unary .not (.bool x)).run Try.prog w = .ok (.bool (!x)) w := fun _ _ => rfl
  go_enter Try.func55, Try.ntmps55
  go_wp2_with (fail)
  with_reducible refine (on_c b m c Hc.out c0 c1 true HZ.out _ P0.out).mono ?_
  rintro q_ w' ⟨rfl, rfl⟩
  obtain ⟨hc, hf⟩ := P0.out.out
  go_wp2_with (refine ust_u P0.out rfl _ _ rfl _ rfl _ rfl (by omega) (by omega) (by omega) ?_)
  intro u1 hP hk
  clear hc hf
  replace hP : Has u1 b (encU (upd m 8352 x)) := hP
  have P1 := Lib.hid hP
  have K1 := Lib.hid (K0.out.trans hk)
  clear hP hk P0 K0
  try simp only [Act.put]
  go_wp2_with (fail)
  with_reducible refine (on_c b (upd m 8352 x) x (upd_same _ _ _) x0 x1 true HY.out _ P1.out).mono ?_
  rintro q_ w' ⟨rfl, rfl⟩
  go_wp2
  all_goals first | exact bodyPost_ret (v := .tuple #[]) (by simp [results, Try.results55, go_sem]) rfl ⟨rfl, P1.out, K1.out⟩ | exact bodyPost_end (v := .tuple #[]) (by simp [results, Try.results55, go_sem]) rfl ⟨rfl, P1.out, K1.out⟩
set_option maxHeartbeats 2000000 in
theorem ctl_was (b : Nat) (m : M) (c : Int) (hc : m 8352 = c) (c0 : 0 ≤ c) (c1 : c < 256)  (x : Int) (x0 : 0 ≤ x) (x1 : x < 256) (hz : decide (128 ≤ c) = false)  (w : World) (h : Has w b (encU m)) : Calls Try.prog 55 #[.pointer (some ⟨b, 0, none⟩), .int .u8 x] w fun q_ w' => q_ = .returned (.tuple #[]) ∧ Has w' b (encU (upd m 8352 x)) ∧ Keeps b w w' := by
  suffices hall : ∀ w0 : World, Keeps b w0 w → Calls Try.prog 55 #[.pointer (some ⟨b, 0, none⟩), .int .u8 x] w fun q_ w' => q_ = .returned (.tuple #[]) ∧ Has w' b (encU (upd m 8352 x)) ∧ Keeps b w0 w' from hall w (Keeps.refl b w)
  intro w0 hK
  have P0 := Lib.hid h
  have K0 := Lib.hid hK
  clear h hK
  have Hc := Lib.hid hc
  clear hc
  have HZ := Lib.hid hz
  clear hz
  have hnot : ∀ (x : Bool) (w : World), (Op.unary .not (.bool x)).run Try.prog w = .ok (.bool (!x)) w := fun _ _ => rfl
  go_enter Try.func55, Try.ntmps55
  go_wp2_with (fail)
  with_reducible refine (on_c b m c Hc.out c0 c1 false HZ.out _ P0.out).mono ?_
  rintro q_ w' ⟨rfl, rfl⟩
  obtain ⟨hc, hf⟩ := P0.out.out
  go_wp2_with (refine ust_u P0.out rfl _ _ rfl _ rfl _ rfl (by omega) (by omega) (by omega) ?_)
  intro u1 hP hk
  clear hc hf
  replace hP : Has u1 b (encU (upd m 8352 x)) := hP
  have P1 := Lib.hid hP
  have K1 := Lib.hid (K0.out.trans hk)
  clear hP hk P0 K0
  try simp only [Act.put]
  go_wp2
  all_goals first | exact bodyPost_ret (v := .tuple #[]) (by simp [results, Try.results55, go_sem]) rfl ⟨rfl, P1.out, K1.out⟩ | exact bodyPost_end (v := .tuple #[]) (by simp [results, Try.results55, go_sem]) rfl ⟨rfl, P1.out, K1.out⟩
theorem ctl_c (b : Nat) (m : M) (ok : Ok m) (x : Int) (x0 : 0 ≤ x) (x1 : x < 256) (w : World) (h : Has w b (encU m)) : Calls Try.prog 55 #[.pointer (some ⟨b, 0, none⟩), .int .u8 x] w fun q_ w' => q_ = .returned (.tuple #[]) ∧ Has w' b (encU (ctlM m x)) ∧ Keeps b w w' := by
  have B := ok.byte 8352 (by decide) (by decide)
  unfold ctlM
  by_cases g : 128 ≤ m 8352
  · by_cases g2 : x < 128
    · rw [if_pos ⟨g, g2⟩]; exact ctl_off b m _ rfl B.1 B.2 x x0 x1 (by simpa using g) (by simpa using g2) w h
    · rw [if_neg (fun q => g2 q.2)]; exact ctl_on b m _ rfl B.1 B.2 x x0 x1 (by simpa using g) (by simp; omega) w h
  · rw [if_neg (fun q => g q.1)]; exact ctl_was b m _ rfl B.1 B.2 x x0 x1 (by simpa using g) w h
set_option maxHeartbeats 2000000 in
theorem set_1 (b : Nat) (m : M)  (x : Int) (x0 : 0 ≤ x) (x1 : x < 256)  (w : World) (h : Has w b (encU m)) : Calls Try.prog 40 #[.pointer (some ⟨b, 0, none⟩), .int .i64 1, .int .u8 x] w fun q_ w' => q_ = .returned (.tuple #[]) ∧ Has w' b (encU (upd m 8353 (x / 8 % 16 * 8))) ∧ Keeps b w w' := by
  suffices hall : ∀ w0 : World, Keeps b w0 w → Calls Try.prog 40 #[.pointer (some ⟨b, 0, none⟩), .int .i64 1, .int .u8 x] w fun q_ w' => q_ = .returned (.tuple #[]) ∧ Has w' b (encU (upd m 8353 (x / 8 % 16 * 8))) ∧ Keeps b w0 w' from hall w (Keeps.refl b w)
  intro w0 hK
  have P0 := Lib.hid h
  have K0 := Lib.hid hK
  clear h hK
  have hg := g120 x x0 x1
  go_enter Try.func40, Try.ntmps40
  obtain ⟨hc, hf⟩ := P0.out.out
  go_wp2_with (refine ust_u P0.out rfl _ _ rfl _ rfl _ rfl (by omega) (by omega) (by omega) ?_)
  intro u1 hP hk
  clear hc hf
  have P1 := Lib.hid hP
  have K1 := Lib.hid (K0.out.trans hk)
  clear hP hk P0 K0
  try simp only [Act.put]
  go_wp2
  all_goals first | exact bodyPost_ret (v := .tuple #[]) (by simp [results, Try.results40, go_sem]) rfl ⟨rfl, P1.out, K1.out⟩ | exact bodyPost_end (v := .tuple #[]) (by simp [results, Try.results40, go_sem]) rfl ⟨rfl, P1.out, K1.out⟩
set_option maxHeartbeats 2000000 in
theorem set_4 (b : Nat) (m : M)  (x : Int) (x0 : 0 ≤ x) (x1 : x < 256)  (w : World) (h : Has w b (encU m)) : Calls Try.prog 40 #[.pointer (some ⟨b, 0, none⟩), .int .i64 4, .int .u8 x] w fun q_ w' => q_ = .returned (.tuple #[]) ∧ Has w' b (encU (m)) ∧ Keeps b w w' := by
  suffices hall : ∀ w0 : World, Keeps b w0 w → Calls Try.prog 40 #[.pointer (some ⟨b, 0, none⟩), .int .i64 4, .int .u8 x] w fun q_ w' => q_ = .returned (.tuple #[]) ∧ Has w' b (encU (m)) ∧ Keeps b w0 w' from hall w (Keeps.refl b w)
  intro w0 hK
  have P0 := Lib.hid h
  have K0 := Lib.hid hK
  clear h hK
  go_enter Try.func40, Try.ntmps40
  go_wp2
  all_goals first | exact bodyPost_ret (v := .tuple #[]) (by simp [results, Try.results40, go_sem]) rfl ⟨rfl, P0.out, K0.out⟩ | exact bodyPost_end (v := .tuple #[]) (by simp [results, Try.results40, go_sem]) rfl ⟨rfl, P0.out, K0.out⟩
set_option maxHeartbeats 2000000 in
theorem set_0 (b : Nat) (m : M)  (x : Int) (x0 : 0 ≤ x) (x1 : x < 256) (ok : Ok m) (w : World) (h : Has w b (encU m)) : Calls Try.prog 40 #[.pointer (some ⟨b, 0, none⟩), .int .i64 0, .int .u8 x] w fun q_ w' => q_ = .returned (.tuple #[]) ∧ Has w' b (encU (ctlM m x)) ∧ Keeps b w w' := by
  suffices hall : ∀ w0 : World, Keeps b w0 w → Calls Try.prog 40 #[.pointer (some ⟨b, 0, none⟩), .int .i64 0, .int .u8 x] w fun q_ w' => q_ = .returned (.tuple #[]) ∧ Has w' b (encU (ctlM m x)) ∧ Keeps b w0 w' from hall w (Keeps.refl b w)
  intro w0 hK
  have P0 := Lib.hid h
  have K0 := Lib.hid hK
  clear h hK
  have OK := Lib.hid ok
  clear ok
  go_enter Try.func40, Try.ntmps40
  go_wp2_with (fail)
  with_reducible refine (ctl_c b m OK.out x x0 x1 _ P0.out).mono ?_
  rintro q_ u1 ⟨rfl, hP, hk⟩
  have P1 := Lib.hid hP
  have K1 := Lib.hid (K0.out.trans hk)
  clear hP hk P0 K0
  go_wp2
  all_goals first | exact bodyPost_ret (v := .tuple #[]) (by simp [results, Try.results40, go_sem]) rfl ⟨rfl, P1.out, K1.out⟩ | exact bodyPost_end (v := .tuple #[]) (by simp [results, Try.results40, go_sem]) rfl ⟨rfl, P1.out, K1.out⟩
set_option maxHeartbeats 2000000 in
theorem set_n (b : Nat) (m : M)  (x : Int) (x0 : 0 ≤ x) (x1 : x < 256) (n : Nat) (n1 : n < 11) (h0 : ((n : Int) == 0) = false) (h1 : ((n : Int) == 1) = false) (h4 : ((n : Int) == 4) = false) (w : World) (h : Has w b (encU m)) : Calls Try.prog 40 #[.pointer (some ⟨b, 0, none⟩), .int .i64 (n : Int), .int .u8 x] w fun q_ w' => q_ = .returned (.tuple #[]) ∧ Has w' b (encU (upd m (8352 + n) x)) ∧ Keeps b w w' := by
  suffices hall : ∀ w0 : World, Keeps b w0 w → Calls Try.prog 40 #[.pointer (some ⟨b, 0, none⟩), .int .i64 (n : Int), .int .u8 x] w fun q_ w' => q_ = .returned (.tuple #[]) ∧ Has w' b (encU (upd m (8352 + n) x)) ∧ Keeps b w0 w' from hall w (Keeps.refl b w)
  intro w0 hK
  have P0 := Lib.hid h
  have K0 := Lib.hid hK
  clear h hK
  have n2 : (n : Int) < 11 := by omega
  go_enter Try.func40, Try.ntmps40
  obtain ⟨hc, hf⟩ := P0.out.out
  go_wp2_with (refine ust_u P0.out rfl _ _ rfl _ rfl _ rfl (by omega) (by omega) (by omega) ?_)
  intro u1 hP hk
  clear hc hf
  have P1 := Lib.hid hP
  have K1 := Lib.hid (K0.out.trans hk)
  clear hP hk P0 K0
  try simp only [Act.put]
  go_wp2
  all_goals first | exact bodyPost_ret (v := .tuple #[]) (by simp [results, Try.results40, go_sem]) rfl ⟨rfl, P1.out, K1.out⟩ | exact bodyPost_end (v := .tuple #[]) (by simp [results, Try.results40, go_sem]) rfl ⟨rfl, P1.out, K1.out⟩
theorem set_c (b : Nat) (m : M) (ok : Ok m) (n : Nat) (n1 : n < 11) (x : Int) (x0 : 0 ≤ x) (x1 : x < 256) (w : World) (h : Has w b (encU m)) : Calls Try.prog 40 #[.pointer (some ⟨b, 0, none⟩), .int .i64 (n : Int), .int .u8 x] w fun q_ w' => q_ = .returned (.tuple #[]) ∧ Has w' b (encU (setM m n x)) ∧ Keeps b w w' := by
  unfold setM
  by_cases a1 : n = 1
  · subst a1; rw [if_pos rfl]; exact set_1 b m x x0 x1 w h
  · rw [if_neg a1]
    by_cases a4 : n = 4
    · subst a4; rw [if_pos rfl]; exact set_4 b m x x0 x1 w h
    · rw [if_neg a4]
      by_cases a0 : n = 0
      · subst a0; rw [if_pos rfl]; exact set_0 b m x x0 x1 ok w h
      · rw [if_neg a0]; exact set_n b m x x0 x1 n n1 (by simp; omega) (by simp; omega) (by simp; omega) w h
set_option maxHeartbeats 2000000 in
theorem wr_h (b : Nat) (m : M) (c : Int) (hc : m 8352 = c) (c0 : 0 ≤ c) (c1 : c < 256) (L : Int) (hL : m 8356 = L) (L0 : 0 ≤ L) (L1 : L < 256) (d : Int) (hd : m 8363 = d) (d0 : 0 ≤ d) (d1 : d < 256)  (a : Int) (a0 : 0 ≤ a) (a1 : a < 65536) (x : Int) (x0 : 0 ≤ x) (x1 : x < 256) (hz : hidV (modeV c L d) a = true) (w : World) (h : Has w b (encU m)) : Calls Try.prog 21 #[.pointer (some ⟨b, 0, none⟩), .int .u16 a, .int .u8 x] w fun q_ w' => q_ = .returned (.int .u8 0) ∧ Has w' b (encU (m)) ∧ Keeps b w w' := by
  suffices hall : ∀ w0 : World, Keeps b w0 w → Calls Try.prog 21 #[.pointer (some ⟨b, 0, none⟩), .int .u16 a, .int .u8 x] w fun q_ w' => q_ = .returned (.int .u8 0) ∧ Has w' b (encU (m)) ∧ Keeps b w0 w' from hall w (Keeps.refl b w)
  intro w0 hK
  have P0 := Lib.hid h
  have K0 := Lib.hid hK
  clear h hK
  have Hc := Lib.hid hc
  clear hc
  have HL := Lib.hid hL
  clear hL
  have Hd := Lib.hid hd
  clear hd
  have HZ := Lib.hid hz
  clear hz
  go_enter Try.func21, Try.ntmps21
  go_wp2_with (fail)
  with_reducible refine (hides_c b m c Hc.out c0 c1 L HL.out L0 L1 d Hd.out d0 d1 a a0 a1 true HZ.out _ P0.out).mono ?_
  rintro q_ w' ⟨rfl, rfl⟩
  go_wp2
  all_goals first | exact bodyPost_ret (v := .int .u8 0) (by simp [results, Try.results21, go_sem]) rfl ⟨rfl, P0.out, K0.out⟩ | exact bodyPost_end (v := .int .u8 0) (by simp [results, Try.results21, go_sem]) rfl ⟨rfl, P0.out, K0.out⟩
set_option maxHeartbeats 2000000 in
theorem wr_r (b : Nat) (m : M) (c : Int) (hc : m 8352 = c) (c0 : 0 ≤ c) (c1 : c < 256) (L : Int) (hL : m 8356 = L) (L0 : 0 ≤ L) (L1 : L < 256) (d : Int) (hd : m 8363 = d) (d0 : 0 ≤ d) (d1 : d < 256)  (a : Int) (a0 : 0 ≤ a) (a1 : a < 65536) (x : Int) (x0 : 0 ≤ x) (x1 : x < 256) (hz : hidV (modeV c L d) a = false) (k : Nat) (hr : isR a = true) (hk : regno a = k) (m1 m2 : M) (r : Int) (H1 : ∀ W, Has W b (encU m) → Calls Try.prog 40 #[.pointer (some ⟨b, 0, none⟩), .int .i64 (k : Int), .int .u8 x] W fun q_ w' => q_ = .returned (.tuple #[]) ∧ Has w' b (encU m1) ∧ Keeps b W w') (H2 : ∀ W, Has W b (encU m1) → Calls Try.prog 41 #[.pointer (some ⟨b, 0, none⟩)] W fun q_ w' => q_ = .returned (.int .u8 r) ∧ Has w' b (encU m2) ∧ Keeps b W w') (w : World) (h : Has w b (encU m)) : Calls Try.prog 21 #[.pointer (some ⟨b, 0, none⟩), .int .u16 a, .int .u8 x] w fun q_ w' => q_ = .returned (.int .u8 r) ∧ Has w' b (encU (m2)) ∧ Keeps b w w' := by
  suffices hall : ∀ w0 : World, Keeps b w0 w → Calls Try.prog 21 #[.pointer (some ⟨b, 0, none⟩), .int .u16 a, .int .u8 x] w fun q_ w' => q_ = .returned (.int .u8 r) ∧ Has w' b (encU (m2)) ∧ Keeps b w0 w' from hall w (Keeps.refl b w)
  intro w0 hK
  have P0 := Lib.hid h
  have K0 := Lib.hid hK
  clear h hK
  have Hc := Lib.hid hc
  clear hc
  have HL := Lib.hid hL
  clear hL
  have Hd := Lib.hid hd
  clear hd
  have HZ := Lib.hid hz
  clear hz
  have HR := Lib.hid hr
  have HK := Lib.hid hk
  have S1 := Lib.hid H1
  have S2 := Lib.hid H2
  clear hr hk H1 H2
  go_enter Try.func21, Try.ntmps21
  go_wp2_with (fail)
  with_reducible refine (hides_c b m c Hc.out c0 c1 L HL.out L0 L1 d Hd.out d0 d1 a a0 a1 false HZ.out _ P0.out).mono ?_
  rintro q_ w' ⟨rfl, rfl⟩
  go_wp2_with (fail)
  with_reducible refine (regn_c a a0 a1 k HR.out HK.out _).mono ?_
  rintro q_ w' ⟨rfl, rfl⟩
  go_wp2_with (fail)
  with_reducible refine (S1.out _ P0.out).mono ?_
  rintro q_ u1 ⟨rfl, hP, hk⟩
  have P1 := Lib.hid hP
  have K1 := Lib.hid (K0.out.trans hk)
  clear hP hk P0 K0
  go_wp2_with (fail)
  with_reducible refine (S2.out _ P1.out).mono ?_
  rintro q_ u2 ⟨rfl, hP, hk⟩
  have P2 := Lib.hid hP
  have K2 := Lib.hid (K1.out.trans hk)
  clear hP hk P1 K1
  go_wp2
  all_goals first | exact bodyPost_ret (v := .int .u8 r) (by simp [results, Try.results21, go_sem]) rfl ⟨rfl, P2.out, K2.out⟩ | exact bodyPost_end (v := .int .u8 r) (by simp [results, Try.results21, go_sem]) rfl ⟨rfl, P2.out, K2.out⟩
set_option maxHeartbeats 2000000 in
theorem wr_v (b : Nat) (m : M) (c : Int) (hc : m 8352 = c) (c0 : 0 ≤ c) (c1 : c < 256) (L : Int) (hL : m 8356 = L) (L0 : 0 ≤ L) (L1 : L < 256) (d : Int) (hd : m 8363 = d) (d0 : 0 ≤ d) (d1 : d < 256)  (a : Int) (a0 : 0 ≤ a) (a1 : a < 65536) (x : Int) (x0 : 0 ≤ x) (x1 : x < 256) (hz : hidV (modeV c L d) a = false) (k : Nat) (hk : a = 32768 + k) (k1 : k < 8192) (hr : isR a = false) (w : World) (h : Has w b (encU m)) : Calls Try.prog 21 #[.pointer (some ⟨b, 0, none⟩), .int .u16 a, .int .u8 x] w fun q_ w' => q_ = .returned (.int .u8 0) ∧ Has w' b (encU (upd m (k) x)) ∧ Keeps b w w' := by
  suffices hall : ∀ w0 : World, Keeps b w0 w → Calls Try.prog 21 #[.pointer (some ⟨b, 0, none⟩), .int .u16 a, .int .u8 x] w fun q_ w' => q_ = .returned (.int .u8 0) ∧ Has w' b (encU (upd m (k) x)) ∧ Keeps b w0 w' from hall w (Keeps.refl b w)
  intro w0 hK
  have P0 := Lib.hid h
  have K0 := Lib.hid hK
  clear h hK
  have Hc := Lib.hid hc
  clear hc
  have HL := Lib.hid hL
  clear hL
  have Hd := Lib.hid hd
  clear hd
  have HZ := Lib.hid hz
  clear hz
  have HR := Lib.hid hr
  have HK := Lib.hid hk
  clear hr hk
  go_enter Try.func21, Try.ntmps21
  go_wp2_with (fail)
  with_reducible refine (hides_c b m c Hc.out c0 c1 L HL.out L0 L1 d Hd.out d0 d1 a a0 a1 false HZ.out _ P0.out).mono ?_
  rintro q_ w' ⟨rfl, rfl⟩
  go_wp2_with (fail)
  with_reducible refine (regx_c a a0 a1 HR.out _).mono ?_
  rintro q_ w' ⟨rfl, rfl⟩
  go_wp2_with (fail)
  with_reducible refine (sto_v b m a a0 a1 k HK.out k1 _ P0.out).mono ?_
  rintro q_ w' ⟨rfl, rfl⟩
  obtain ⟨hc, hf⟩ := P0.out.out
  go_wp2_with (refine ust_u P0.out rfl _ _ rfl _ rfl _ rfl (by omega) (by omega) (by omega) ?_)
  intro u1 hP hk
  clear hc hf
  have P1 := Lib.hid hP
  have K1 := Lib.hid (K0.out.trans hk)
  clear hP hk P0 K0
  try simp only [Act.put]
  go_wp2
  all_goals first | exact bodyPost_ret (v := .int .u8 0) (by simp [results, Try.results21, go_sem]) rfl ⟨rfl, P1.out, K1.out⟩ | exact bodyPost_end (v := .int .u8 0) (by simp [results, Try.results21, go_sem]) rfl ⟨rfl, P1.out, K1.out⟩
set_option maxHeartbeats 2000000 in
theorem wr_o (b : Nat) (m : M) (c : Int) (hc : m 8352 = c) (c0 : 0 ≤ c) (c1 : c < 256) (L : Int) (hL : m 8356 = L) (L0 : 0 ≤ L) (L1 : L < 256) (d : Int) (hd : m 8363 = d) (d0 : 0 ≤ d) (d1 : d < 256)  (a : Int) (a0 : 0 ≤ a) (a1 : a < 65536) (x : Int) (x0 : 0 ≤ x) (x1 : x < 256) (hz : hidV (modeV c L d) a = false) (k : Nat) (hk : a = 65024 + k) (k1 : k < 160) (hr : isR a = false) (w : World) (h : Has w b (encU m)) : Calls Try.prog 21 #[.pointer (some ⟨b, 0, none⟩), .int .u16 a, .int .u8 x] w fun q_ w' => q_ = .returned (.int .u8 0) ∧ Has w' b (encU (upd m (8192 + k) x)) ∧ Keeps b w w' := by
  suffices hall : ∀ w0 : World, Keeps b w0 w → Calls Try.prog 21 #[.pointer (some ⟨b, 0, none⟩), .int .u16 a, .int .u8 x] w fun q_ w' => q_ = .returned (.int .u8 0) ∧ Has w' b (encU (upd m (8192 + k) x)) ∧ Keeps b w0 w' from hall w (Keeps.refl b w)
  intro w0 hK
  have P0 := Lib.hid h
  have K0 := Lib.hid hK
  clear h hK
  have Hc := Lib.hid hc
  clear hc
  have HL := Lib.hid hL
  clear hL
  have Hd := Lib.hid hd
  clear hd
  have HZ := Lib.hid hz
  clear hz
  have HR := Lib.hid hr
  have HK := Lib.hid hk
  clear hr hk
  go_enter Try.func21, Try.ntmps21
  go_wp2_with (fail)
  with_reducible refine (hides_c b m c Hc.out c0 c1 L HL.out L0 L1 d Hd.out d0 d1 a a0 a1 false HZ.out _ P0.out).mono ?_
  rintro q_ w' ⟨rfl, rfl⟩
  go_wp2_with (fail)
  with_reducible refine (regx_c a a0 a1 HR.out _).mono ?_
  rintro q_ w' ⟨rfl, rfl⟩
  go_wp2_with (fail)
  with_reducible refine (sto_o b m a a0 a1 k HK.out k1 _ P0.out).mono ?_
  rintro q_ w' ⟨rfl, rfl⟩
  obtain ⟨hc, hf⟩ := P0.out.out
  go_wp2_with (refine ust_u P0.out rfl _ _ rfl _ rfl _ rfl (by omega) (by omega) (by omega) ?_)
  intro u1 hP hk
  clear hc hf
  have P1 := Lib.hid hP
  have K1 := Lib.hid (K0.out.trans hk)
  clear hP hk P0 K0
  try simp only [Act.put]
  go_wp2
  all_goals first | exact bodyPost_ret (v := .int .u8 0) (by simp [results, Try.results21, go_sem]) rfl ⟨rfl, P1.out, K1.out⟩ | exact bodyPost_end (v := .int .u8 0) (by simp [results, Try.results21, go_sem]) rfl ⟨rfl, P1.out, K1.out⟩
set_option maxHeartbeats 2000000 in
theorem wr_n (b : Nat) (m : M) (c : Int) (hc : m 8352 = c) (c0 : 0 ≤ c) (c1 : c < 256) (L : Int) (hL : m 8356 = L) (L0 : 0 ≤ L) (L1 : L < 256) (d : Int) (hd : m 8363 = d) (d0 : 0 ≤ d) (d1 : d < 256)  (a : Int) (a0 : 0 ≤ a) (a1 : a < 65536) (x : Int) (x0 : 0 ≤ x) (x1 : x < 256) (hz : hidV (modeV c L d) a = false) (hr : isR a = false) (h1 : isV a = false) (h2 : isO a = false) (w : World) (h : Has w b (encU m)) : Calls Try.prog 21 #[.pointer (some ⟨b, 0, none⟩), .int .u16 a, .int .u8 x] w fun q_ w' => q_ = .returned (.int .u8 0) ∧ Has w' b (encU (m)) ∧ Keeps b w w' := by
  suffices hall : ∀ w0 : World, Keeps b w0 w → Calls Try.prog 21 #[.pointer (some ⟨b, 0, none⟩), .int .u16 a, .int .u8 x] w fun q_ w' => q_ = .returned (.int .u8 0) ∧ Has w' b (encU (m)) ∧ Keeps b w0 w' from hall w (Keeps.refl b w)
  intro w0 hK
  have P0 := Lib.hid h
  have K0 := Lib.hid hK
  clear h hK
  have Hc := Lib.hid hc
  clear hc
  have HL := Lib.hid hL
  clear hL
  have Hd := Lib.hid hd
  clear hd
  have HZ := Lib.hid hz
  clear hz
  have HR := Lib.hid hr
  have HA := Lib.hid h1
  have HB := Lib.hid h2
  clear hr h1 h2
  go_enter Try.func21, Try.ntmps21
  go_wp2_with (fail)
  with_reducible refine (hides_c b m c Hc.out c0 c1 L HL.out L0 L1 d Hd.out d0 d1 a a0 a1 false HZ.out _ P0.out).mono ?_
  rintro q_ w' ⟨rfl, rfl⟩
  go_wp2_with (fail)
  with_reducible refine (regx_c a a0 a1 HR.out _).mono ?_
  rintro q_ w' ⟨rfl, rfl⟩
  go_wp2_with (fail)
  with_reducible refine (sto_n b m a a0 a1 HA.out HB.out _ P0.out).mono ?_
  rintro q_ w' ⟨rfl, rfl⟩
  go_wp2
  all_goals first | exact bodyPost_ret (v := .int .u8 0) (by simp [results, Try.results21, go_sem]) rfl ⟨rfl, P0.out, K0.out⟩ | exact bodyPost_end (v := .int .u8 0) (by simp [results, Try.results21, go_sem]) rfl ⟨rfl, P0.out, K0.out⟩
theorem isR_V (a : Int) (h : isR a = true) : isV a = false ∧ isO a = false := by
  have := isR_out a h
  exact ⟨isV_hi a (by omega), isO_hi a (by omega)⟩
/-- A write. -/
theorem write_c (b : Nat) (m : M) (ok : Ok m) (a : Int) (a0 : 0 ≤ a) (a1 : a < 65536) (x : Int) (x0 : 0 ≤ x) (x1 : x < 256) (w : World) (h : Has w b (encU m)) : Calls Try.prog 21 #[.pointer (some ⟨b, 0, none⟩), .int .u16 a, .int .u8 x] w fun q_ w' => q_ = .returned (.int .u8 (writeR m a x)) ∧ Has w' b (encU (writeM m a x)) ∧ Keeps b w w' := by
  have B := ok.byte
  unfold writeR writeM
  by_cases hz : hidV (modeM m) a = true
  · rw [if_pos hz, if_pos hz]; exact wr_h b m _ rfl (B 8352 (by decide) (by decide)).1 (B 8352 (by decide) (by decide)).2 _ rfl (B 8356 (by decide) (by decide)).1 (B 8356 (by decide) (by decide)).2 _ rfl (B 8363 (by decide) (by decide)).1 (B 8363 (by decide) (by decide)).2 a a0 a1 x x0 x1 hz w h
  · rw [if_neg hz, if_neg hz]
    have hz' : hidV (modeM m) a = false := by simpa using hz
    unfold putR putM
    by_cases hr : isR a = true
    · rw [if_pos hr, if_pos hr]
      exact wr_r b m _ rfl (B 8352 (by decide) (by decide)).1 (B 8352 (by decide) (by decide)).2 _ rfl (B 8356 (by decide) (by decide)).1 (B 8356 (by decide) (by decide)).2 _ rfl (B 8363 (by decide) (by decide)).1 (B 8363 (by decide) (by decide)).2 a a0 a1 x x0 x1 hz' _ hr rfl _ _ _ (fun W hW => set_c b m ok _ (regno_bd a hr) x x0 x1 W hW) (fun W hW => signal_c b _ (ok_set ok _ (regno_bd a hr) x ⟨x0, x1⟩) W hW) w h
    · rw [if_neg hr, if_neg hr]
      by_cases hv : isV a = true
      · rw [if_pos hv]
        have q := isV_out a hv
        exact wr_v b m _ rfl (B 8352 (by decide) (by decide)).1 (B 8352 (by decide) (by decide)).2 _ rfl (B 8356 (by decide) (by decide)).1 (B 8356 (by decide) (by decide)).2 _ rfl (B 8363 (by decide) (by decide)).1 (B 8363 (by decide) (by decide)).2 a a0 a1 x x0 x1 hz' (a - 32768).toNat (by omega) (by omega) (isR_low a (by omega)) w h
      · rw [if_neg hv]
        by_cases ho : isO a = true
        · rw [if_pos ho]
          have q := isO_out a ho
          exact wr_o b m _ rfl (B 8352 (by decide) (by decide)).1 (B 8352 (by decide) (by decide)).2 _ rfl (B 8356 (by decide) (by decide)).1 (B 8356 (by decide) (by decide)).2 _ rfl (B 8363 (by decide) (by decide)).1 (B 8363 (by decide) (by decide)).2 a a0 a1 x x0 x1 hz' (a - 65024).toNat (by omega) (by omega) (isR_low a (by omega)) w h
        · rw [if_neg ho]
          exact wr_n b m _ rfl (B 8352 (by decide) (by decide)).1 (B 8352 (by decide) (by decide)).2 _ rfl (B 8356 (by decide) (by decide)).1 (B 8356 (by decide) (by decide)).2 _ rfl (B 8363 (by decide) (by decide)).1 (B 8363 (by decide) (by decide)).2 a a0 a1 x x0 x1 hz' (by simpa using hr) (by simpa using hv) (by simpa using ho) w h
set_option maxHeartbeats 2000000 in
theorem spr_lo (b : Nat) (m : M)  (n : Int) (n0 : -9223372036854775808 ≤ n) (n1 : n ≤ 9223372036854775807) (x : Int) (x0 : 0 ≤ x) (x1 : x < 256) (h1 : n < 0) (w : World) (h : Has w b (encU m)) : Calls Try.prog 28 #[.pointer (some ⟨b, 0, none⟩), .int .i64 n, .int .u8 x] w fun q_ w' => q_ = .returned (.tuple #[]) ∧ Has w' b (encU (m)) ∧ Keeps b w w' := by
  suffices hall : ∀ w0 : World, Keeps b w0 w → Calls Try.prog 28 #[.pointer (some ⟨b, 0, none⟩), .int .i64 n, .int .u8 x] w fun q_ w' => q_ = .returned (.tuple #[]) ∧ Has w' b (encU (m)) ∧ Keeps b w0 w' from hall w (Keeps.refl b w)
  intro w0 hK
  have P0 := Lib.hid h
  have K0 := Lib.hid hK
  clear h hK
  have g : ¬ 0 ≤ n := by omega
  go_enter Try.func28, Try.ntmps28
  go_wp2
  all_goals first | exact bodyPost_ret (v := .tuple #[]) (by simp [results, Try.results28, go_sem]) rfl ⟨rfl, P0.out, K0.out⟩ | exact bodyPost_end (v := .tuple #[]) (by simp [results, Try.results28, go_sem]) rfl ⟨rfl, P0.out, K0.out⟩
set_option maxHeartbeats 2000000 in
theorem spr_hi (b : Nat) (m : M)  (n : Int) (n0 : -9223372036854775808 ≤ n) (n1 : n ≤ 9223372036854775807) (x : Int) (x0 : 0 ≤ x) (x1 : x < 256) (h1 : 160 ≤ n) (w : World) (h : Has w b (encU m)) : Calls Try.prog 28 #[.pointer (some ⟨b, 0, none⟩), .int .i64 n, .int .u8 x] w fun q_ w' => q_ = .returned (.tuple #[]) ∧ Has w' b (encU (m)) ∧ Keeps b w w' := by
  suffices hall : ∀ w0 : World, Keeps b w0 w → Calls Try.prog 28 #[.pointer (some ⟨b, 0, none⟩), .int .i64 n, .int .u8 x] w fun q_ w' => q_ = .returned (.tuple #[]) ∧ Has w' b (encU (m)) ∧ Keeps b w0 w' from hall w (Keeps.refl b w)
  intro w0 hK
  have P0 := Lib.hid h
  have K0 := Lib.hid hK
  clear h hK
  have g : 0 ≤ n := by omega
  have g2 : ¬ n < 160 := by omega
  go_enter Try.func28, Try.ntmps28
  go_wp2
  all_goals first | exact bodyPost_ret (v := .tuple #[]) (by simp [results, Try.results28, go_sem]) rfl ⟨rfl, P0.out, K0.out⟩ | exact bodyPost_end (v := .tuple #[]) (by simp [results, Try.results28, go_sem]) rfl ⟨rfl, P0.out, K0.out⟩
set_option maxHeartbeats 2000000 in
theorem spr_in (b : Nat) (m : M)  (k : Nat) (k1 : k < 160) (x : Int) (x0 : 0 ≤ x) (x1 : x < 256)  (w : World) (h : Has w b (encU m)) : Calls Try.prog 28 #[.pointer (some ⟨b, 0, none⟩), .int .i64 (k : Int), .int .u8 x] w fun q_ w' => q_ = .returned (.tuple #[]) ∧ Has w' b (encU (upd m (8192 + k) x)) ∧ Keeps b w w' := by
  suffices hall : ∀ w0 : World, Keeps b w0 w → Calls Try.prog 28 #[.pointer (some ⟨b, 0, none⟩), .int .i64 (k : Int), .int .u8 x] w fun q_ w' => q_ = .returned (.tuple #[]) ∧ Has w' b (encU (upd m (8192 + k) x)) ∧ Keeps b w0 w' from hall w (Keeps.refl b w)
  intro w0 hK
  have P0 := Lib.hid h
  have K0 := Lib.hid hK
  clear h hK
  have k2 : (k : Int) < 160 := by omega
  go_enter Try.func28, Try.ntmps28
  obtain ⟨hc, hf⟩ := P0.out.out
  go_wp2_with (refine ust_u P0.out rfl _ _ rfl _ rfl _ rfl (by omega) (by omega) (by omega) ?_)
  intro u1 hP hk
  clear hc hf
  have P1 := Lib.hid hP
  have K1 := Lib.hid (K0.out.trans hk)
  clear hP hk P0 K0
  try simp only [Act.put]
  go_wp2
  all_goals first | exact bodyPost_ret (v := .tuple #[]) (by simp [results, Try.results28, go_sem]) rfl ⟨rfl, P1.out, K1.out⟩ | exact bodyPost_end (v := .tuple #[]) (by simp [results, Try.results28, go_sem]) rfl ⟨rfl, P1.out, K1.out⟩
theorem oamw_c (b : Nat) (m : M) (n : Int) (x : Int) (x0 : 0 ≤ x) (x1 : x < 256) (w : World) (h : Has w b (encU m)) (n0 : -9223372036854775808 ≤ n) (n1 : n ≤ 9223372036854775807) : Calls Try.prog 28 #[.pointer (some ⟨b, 0, none⟩), .int .i64 n, .int .u8 x] w fun q_ w' => q_ = .returned (.tuple #[]) ∧ Has w' b (encU (sprM m n x)) ∧ Keeps b w w' := by
  unfold sprM
  by_cases g : 0 ≤ n ∧ n < 160
  · rw [if_pos g]
    obtain ⟨k, rfl⟩ := Int.eq_ofNat_of_zero_le g.1
    exact spr_in b m k (by omega) x x0 x1 w h
  · rw [if_neg g]
    by_cases g2 : n < 0
    · exact spr_lo b m n n0 n1 x x0 x1 g2 w h
    · exact spr_hi b m n n0 n1 x x0 x1 (by omega) w h
end Go.Proofs.Ytpfbodmadmneiaa
