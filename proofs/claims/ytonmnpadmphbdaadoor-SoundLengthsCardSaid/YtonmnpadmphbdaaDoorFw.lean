/-
  The functions trigger, shorten, changeLevels: for every board; no condition but that each number fits.
-/
import Derived.Test.YtonmnpadmphbdaaDoorFv
import Derived.Deep.Cut
import Derived.BigQuiet
import Derived.WalkSmall
import Derived.Deep.LoopGhost
namespace Go.Proofs.YtonmnpadmphbdaaDoor
open Go.ChangeShapes Go.WideShapes Go.ChangeAt Go.RowKit
set_option linter.unusedVariables false
set_option linter.unusedSimpArgs false
set_option maxRecDepth 100000
set_option maxHeartbeats 2000000 in
theorem trig_01 (b : Nat) (m : M) (v : Int) (vn : Nat) (hv : v = vn) (h4 : vn < 4) (hv0 : ¬ v = 0) (p : Nat) (hp : 51 + vn * 4 = p) (x e q l mx : Int) (hx : m (vn * 5 + 2) = x) (g0 : 0 ≤ x) (g1 : x < 256) (he : x / 16 = e) (hq : x % 8 = q) (hl : m (p + 1) = l) (h0 : l = 0) (z : Bool) (HR : ∀ W, Has W b (enc m) → Calls Tryd.prog 27 #[.pointer (some ⟨b, 0, none⟩), .int .i64 v] W fun q_ w' => q_ = .returned (.bool z) ∧ w' = W) (HM : ∀ W, Calls Tryd.prog 28 #[.int .i64 v] W fun q_ w' => q_ = .returned (.int .i64 mx) ∧ w' = W)  (w : World) (h : Has w b (enc m)) : Calls Tryd.prog 23 #[.pointer (some ⟨b, 0, none⟩), .int .i64 v] w fun q_ w' => q_ = .returned (.tuple #[]) ∧ Has w' b (enc (upd (upd (upd (upd m p (tf z)) (p + 1) mx) (p + 2) e) (p + 3) q)) ∧ Keeps b w w' := by
  suffices hall : ∀ w0 : World, Keeps b w0 w → Calls Tryd.prog 23 #[.pointer (some ⟨b, 0, none⟩), .int .i64 v] w fun q_ w' => q_ = .returned (.tuple #[]) ∧ Has w' b (enc (upd (upd (upd (upd m p (tf z)) (p + 1) mx) (p + 2) e) (p + 3) q)) ∧ Keeps b w0 w' from hall w (Keeps.refl b w)
  intro w0 hK
  have P0 := Lib.hid h
  have K0 := Lib.hid hK
  clear h hK
  have b0 : isB p = true := by subst hp; exact isB_on vn h4
  have b1 : isB (p + 1) = false := by subst hp; exact isB_no vn 1 h4 (by omega) (by omega)
  have b2 : isB (p + 2) = false := by subst hp; exact isB_no vn 2 h4 (by omega) (by omega)
  have b3 : isB (p + 3) = false := by subst hp; exact isB_no vn 3 h4 (by omega) (by omega)
  have pp : 51 ≤ p ∧ p ≤ 63 := by omega
  have C0 := Lib.hid b0
  have C1 := Lib.hid b1
  have C2 := Lib.hid b2
  have C3 := Lib.hid b3
  clear b0 b1 b2 b3
  subst hv
  have h4i : (vn : Int) < 4 := by omega
  have HX := Lib.hid hx
  have HL := Lib.hid hl
  have SR := Lib.hid HR
  have SM := Lib.hid HM
  clear hx hl HR HM
  go_enter Tryd.func23, Tryd.ntmps23
  go_wp2_with fail
  with_reducible refine (register_c b m _ 2 vn 2 (vn * 5 + 2) rfl rfl rfl (by omega) x HX.out _ P0.out).mono ?_
  rintro q_ w' ⟨rfl, rfl⟩
  go_wp2_with fail
  with_reducible refine (SR.out _ P0.out).mono ?_
  rintro q_ w' ⟨rfl, rfl⟩
  go_wp2_with (refine store_bo P0.out rfl _ _ rfl _ rfl _ rfl (by exact C0.out) (by omega) ?_)
  intro u1 hP hk
  replace hP : Has u1 b (enc (upd m p (tf z))) := hP
  have P1 := Lib.hid hP
  have K1 := Lib.hid (K0.out.trans hk)
  clear hP hk P0 K0
  try simp only [Act.put]
  obtain ⟨hc, hf⟩ := P1.out.out
  have e1 : (enc (upd m p (tf z)))[p + 1]? = some (.int .i64 l) := by rw [enc_i _ _ (by first | exact C1.out | rfl) (by omega) (by omega)]; simp [upd, HL.out]
  go_wp2_with fail
  with_reducible refine (SM.out _).mono ?_
  rintro q_ w' ⟨rfl, rfl⟩
  go_wp2_with (refine store_i P1.out rfl _ _ rfl _ rfl _ rfl (by first | exact C1.out | rfl) (by omega) (by omega) ?_)
  intro u2 hP hk
  replace hP : Has u2 b (enc (upd (upd m p (tf z)) (p + 1) mx)) := hP
  have P2 := Lib.hid hP
  have K2 := Lib.hid (K1.out.trans hk)
  clear hP hk P1 K1
  try simp only [Act.put]
  clear hc hf e1
  go_wp2_with (refine store_i P2.out rfl _ _ rfl _ rfl _ rfl (by first | exact C2.out | rfl) (by omega) (by omega) ?_)
  intro u3 hP hk
  replace hP : Has u3 b (enc (upd (upd (upd m p (tf z)) (p + 1) mx) (p + 2) e)) := hP
  have P3 := Lib.hid hP
  have K3 := Lib.hid (K2.out.trans hk)
  clear hP hk P2 K2
  try simp only [Act.put]
  go_wp2_with (refine store_i P3.out rfl _ _ rfl _ rfl _ rfl (by first | exact C3.out | rfl) (by omega) (by omega) ?_)
  intro u4 hP hk
  replace hP : Has u4 b (enc (upd (upd (upd (upd m p (tf z)) (p + 1) mx) (p + 2) e) (p + 3) q)) := hP
  have P4 := Lib.hid hP
  have K4 := Lib.hid (K3.out.trans hk)
  clear hP hk P3 K3
  try simp only [Act.put]
  go_wp2
  all_goals first | exact bodyPost_ret (v := .tuple #[]) (by simp [results, Tryd.results23, go_sem]) rfl ⟨rfl, P4.out, K4.out⟩ | exact bodyPost_end (v := .tuple #[]) (by simp [results, Tryd.results23, go_sem]) rfl ⟨rfl, P4.out, K4.out⟩
set_option maxHeartbeats 2000000 in
theorem trig_00 (b : Nat) (m : M) (v : Int) (vn : Nat) (hv : v = vn) (h4 : vn < 4) (hv0 : ¬ v = 0) (p : Nat) (hp : 51 + vn * 4 = p) (x e q l mx : Int) (hx : m (vn * 5 + 2) = x) (g0 : 0 ≤ x) (g1 : x < 256) (he : x / 16 = e) (hq : x % 8 = q) (hl : m (p + 1) = l) (h0 : ¬ l = 0) (z : Bool) (HR : ∀ W, Has W b (enc m) → Calls Tryd.prog 27 #[.pointer (some ⟨b, 0, none⟩), .int .i64 v] W fun q_ w' => q_ = .returned (.bool z) ∧ w' = W)  (w : World) (h : Has w b (enc m)) : Calls Tryd.prog 23 #[.pointer (some ⟨b, 0, none⟩), .int .i64 v] w fun q_ w' => q_ = .returned (.tuple #[]) ∧ Has w' b (enc (upd (upd (upd m p (tf z)) (p + 2) e) (p + 3) q)) ∧ Keeps b w w' := by
  suffices hall : ∀ w0 : World, Keeps b w0 w → Calls Tryd.prog 23 #[.pointer (some ⟨b, 0, none⟩), .int .i64 v] w fun q_ w' => q_ = .returned (.tuple #[]) ∧ Has w' b (enc (upd (upd (upd m p (tf z)) (p + 2) e) (p + 3) q)) ∧ Keeps b w0 w' from hall w (Keeps.refl b w)
  intro w0 hK
  have P0 := Lib.hid h
  have K0 := Lib.hid hK
  clear h hK
  have b0 : isB p = true := by subst hp; exact isB_on vn h4
  have b1 : isB (p + 1) = false := by subst hp; exact isB_no vn 1 h4 (by omega) (by omega)
  have b2 : isB (p + 2) = false := by subst hp; exact isB_no vn 2 h4 (by omega) (by omega)
  have b3 : isB (p + 3) = false := by subst hp; exact isB_no vn 3 h4 (by omega) (by omega)
  have pp : 51 ≤ p ∧ p ≤ 63 := by omega
  have C0 := Lib.hid b0
  have C1 := Lib.hid b1
  have C2 := Lib.hid b2
  have C3 := Lib.hid b3
  clear b0 b1 b2 b3
  subst hv
  have h4i : (vn : Int) < 4 := by omega
  have HX := Lib.hid hx
  have HL := Lib.hid hl
  have SR := Lib.hid HR
  clear hx hl HR
  go_enter Tryd.func23, Tryd.ntmps23
  go_wp2_with fail
  with_reducible refine (register_c b m _ 2 vn 2 (vn * 5 + 2) rfl rfl rfl (by omega) x HX.out _ P0.out).mono ?_
  rintro q_ w' ⟨rfl, rfl⟩
  go_wp2_with fail
  with_reducible refine (SR.out _ P0.out).mono ?_
  rintro q_ w' ⟨rfl, rfl⟩
  go_wp2_with (refine store_bo P0.out rfl _ _ rfl _ rfl _ rfl (by exact C0.out) (by omega) ?_)
  intro u1 hP hk
  replace hP : Has u1 b (enc (upd m p (tf z))) := hP
  have P1 := Lib.hid hP
  have K1 := Lib.hid (K0.out.trans hk)
  clear hP hk P0 K0
  try simp only [Act.put]
  obtain ⟨hc, hf⟩ := P1.out.out
  have e1 : (enc (upd m p (tf z)))[p + 1]? = some (.int .i64 l) := by rw [enc_i _ _ (by first | exact C1.out | rfl) (by omega) (by omega)]; simp [upd, HL.out]
  go_wp2_with (refine store_i P1.out rfl _ _ rfl _ rfl _ rfl (by first | exact C2.out | rfl) (by omega) (by omega) ?_)
  intro u2 hP hk
  replace hP : Has u2 b (enc (upd (upd m p (tf z)) (p + 2) e)) := hP
  have P2 := Lib.hid hP
  have K2 := Lib.hid (K1.out.trans hk)
  clear hP hk P1 K1
  try simp only [Act.put]
  clear hc hf e1
  go_wp2_with (refine store_i P2.out rfl _ _ rfl _ rfl _ rfl (by first | exact C3.out | rfl) (by omega) (by omega) ?_)
  intro u3 hP hk
  replace hP : Has u3 b (enc (upd (upd (upd m p (tf z)) (p + 2) e) (p + 3) q)) := hP
  have P3 := Lib.hid hP
  have K3 := Lib.hid (K2.out.trans hk)
  clear hP hk P2 K2
  try simp only [Act.put]
  go_wp2
  all_goals first | exact bodyPost_ret (v := .tuple #[]) (by simp [results, Tryd.results23, go_sem]) rfl ⟨rfl, P3.out, K3.out⟩ | exact bodyPost_end (v := .tuple #[]) (by simp [results, Tryd.results23, go_sem]) rfl ⟨rfl, P3.out, K3.out⟩
set_option maxHeartbeats 2000000 in
theorem trig_11 (b : Nat) (m : M) (x e q l mx : Int) (hx : m (2) = x) (g0 : 0 ≤ x) (g1 : x < 256) (he : x / 16 = e) (hq : x % 8 = q) (hl : m (52) = l) (h0 : l = 0) (z : Bool) (HR : ∀ W, Has W b (enc m) → Calls Tryd.prog 27 #[.pointer (some ⟨b, 0, none⟩), .int .i64 0] W fun q_ w' => q_ = .returned (.bool z) ∧ w' = W) (HM : ∀ W, Calls Tryd.prog 28 #[.int .i64 0] W fun q_ w' => q_ = .returned (.int .i64 mx) ∧ w' = W) (m9 : M) (H9 : ∀ W, Has W b (enc (upd (upd (upd (upd m 51 (tf z)) (52) mx) (53) e) (54) q)) → Calls Tryd.prog 29 #[.pointer (some ⟨b, 0, none⟩)] W fun q_ w' => q_ = .returned (.tuple #[]) ∧ Has w' b (enc m9) ∧ Keeps b W w')  (w : World) (h : Has w b (enc m)) : Calls Tryd.prog 23 #[.pointer (some ⟨b, 0, none⟩), .int .i64 0] w fun q_ w' => q_ = .returned (.tuple #[]) ∧ Has w' b (enc (m9)) ∧ Keeps b w w' := by
  suffices hall : ∀ w0 : World, Keeps b w0 w → Calls Tryd.prog 23 #[.pointer (some ⟨b, 0, none⟩), .int .i64 0] w fun q_ w' => q_ = .returned (.tuple #[]) ∧ Has w' b (enc (m9)) ∧ Keeps b w0 w' from hall w (Keeps.refl b w)
  intro w0 hK
  have P0 := Lib.hid h
  have K0 := Lib.hid hK
  clear h hK
  have HX := Lib.hid hx
  have HL := Lib.hid hl
  have SR := Lib.hid HR
  have SM := Lib.hid HM
  have S9 := Lib.hid H9
  clear hx hl HR HM H9
  go_enter Tryd.func23, Tryd.ntmps23
  go_wp2_with fail
  with_reducible refine (register_c b m 0 2 0 2 (2) rfl rfl rfl (by omega) x HX.out _ P0.out).mono ?_
  rintro q_ w' ⟨rfl, rfl⟩
  go_wp2_with fail
  with_reducible refine (SR.out _ P0.out).mono ?_
  rintro q_ w' ⟨rfl, rfl⟩
  go_wp2_with (refine store_bo P0.out rfl _ _ rfl _ rfl _ rfl (by exact rfl) (by omega) ?_)
  intro u1 hP hk
  replace hP : Has u1 b (enc (upd m 51 (tf z))) := hP
  have P1 := Lib.hid hP
  have K1 := Lib.hid (K0.out.trans hk)
  clear hP hk P0 K0
  try simp only [Act.put]
  obtain ⟨hc, hf⟩ := P1.out.out
  have e1 : (enc (upd m 51 (tf z)))[52]? = some (.int .i64 l) := by rw [enc_i _ _ (by first | exact C1.out | rfl) (by omega) (by omega)]; simp [upd, HL.out]
  go_wp2_with fail
  with_reducible refine (SM.out _).mono ?_
  rintro q_ w' ⟨rfl, rfl⟩
  go_wp2_with (refine store_i P1.out rfl _ _ rfl _ rfl _ rfl (by first | exact C1.out | rfl) (by omega) (by omega) ?_)
  intro u2 hP hk
  replace hP : Has u2 b (enc (upd (upd m 51 (tf z)) (52) mx)) := hP
  have P2 := Lib.hid hP
  have K2 := Lib.hid (K1.out.trans hk)
  clear hP hk P1 K1
  try simp only [Act.put]
  clear hc hf e1
  go_wp2_with (refine store_i P2.out rfl _ _ rfl _ rfl _ rfl (by first | exact C2.out | rfl) (by omega) (by omega) ?_)
  intro u3 hP hk
  replace hP : Has u3 b (enc (upd (upd (upd m 51 (tf z)) (52) mx) (53) e)) := hP
  have P3 := Lib.hid hP
  have K3 := Lib.hid (K2.out.trans hk)
  clear hP hk P2 K2
  try simp only [Act.put]
  go_wp2_with (refine store_i P3.out rfl _ _ rfl _ rfl _ rfl (by first | exact C3.out | rfl) (by omega) (by omega) ?_)
  intro u4 hP hk
  replace hP : Has u4 b (enc (upd (upd (upd (upd m 51 (tf z)) (52) mx) (53) e) (54) q)) := hP
  have P4 := Lib.hid hP
  have K4 := Lib.hid (K3.out.trans hk)
  clear hP hk P3 K3
  try simp only [Act.put]
  go_wp2_with fail
  with_reducible refine (S9.out _ P4.out).mono ?_
  rintro q_ u5 ⟨rfl, hP, hk⟩
  have P5 := Lib.hid hP
  have K5 := Lib.hid (K4.out.trans hk)
  clear hP hk P4 K4
  go_wp2
  all_goals first | exact bodyPost_ret (v := .tuple #[]) (by simp [results, Tryd.results23, go_sem]) rfl ⟨rfl, P5.out, K5.out⟩ | exact bodyPost_end (v := .tuple #[]) (by simp [results, Tryd.results23, go_sem]) rfl ⟨rfl, P5.out, K5.out⟩
set_option maxHeartbeats 2000000 in
theorem trig_10 (b : Nat) (m : M) (x e q l mx : Int) (hx : m (2) = x) (g0 : 0 ≤ x) (g1 : x < 256) (he : x / 16 = e) (hq : x % 8 = q) (hl : m (52) = l) (h0 : ¬ l = 0) (z : Bool) (HR : ∀ W, Has W b (enc m) → Calls Tryd.prog 27 #[.pointer (some ⟨b, 0, none⟩), .int .i64 0] W fun q_ w' => q_ = .returned (.bool z) ∧ w' = W) (m9 : M) (H9 : ∀ W, Has W b (enc (upd (upd (upd m 51 (tf z)) (53) e) (54) q)) → Calls Tryd.prog 29 #[.pointer (some ⟨b, 0, none⟩)] W fun q_ w' => q_ = .returned (.tuple #[]) ∧ Has w' b (enc m9) ∧ Keeps b W w')  (w : World) (h : Has w b (enc m)) : Calls Tryd.prog 23 #[.pointer (some ⟨b, 0, none⟩), .int .i64 0] w fun q_ w' => q_ = .returned (.tuple #[]) ∧ Has w' b (enc (m9)) ∧ Keeps b w w' := by
  suffices hall : ∀ w0 : World, Keeps b w0 w → Calls Tryd.prog 23 #[.pointer (some ⟨b, 0, none⟩), .int .i64 0] w fun q_ w' => q_ = .returned (.tuple #[]) ∧ Has w' b (enc (m9)) ∧ Keeps b w0 w' from hall w (Keeps.refl b w)
  intro w0 hK
  have P0 := Lib.hid h
  have K0 := Lib.hid hK
  clear h hK
  have HX := Lib.hid hx
  have HL := Lib.hid hl
  have SR := Lib.hid HR
  have S9 := Lib.hid H9
  clear hx hl HR H9
  go_enter Tryd.func23, Tryd.ntmps23
  go_wp2_with fail
  with_reducible refine (register_c b m 0 2 0 2 (2) rfl rfl rfl (by omega) x HX.out _ P0.out).mono ?_
  rintro q_ w' ⟨rfl, rfl⟩
  go_wp2_with fail
  with_reducible refine (SR.out _ P0.out).mono ?_
  rintro q_ w' ⟨rfl, rfl⟩
  go_wp2_with (refine store_bo P0.out rfl _ _ rfl _ rfl _ rfl (by exact rfl) (by omega) ?_)
  intro u1 hP hk
  replace hP : Has u1 b (enc (upd m 51 (tf z))) := hP
  have P1 := Lib.hid hP
  have K1 := Lib.hid (K0.out.trans hk)
  clear hP hk P0 K0
  try simp only [Act.put]
  obtain ⟨hc, hf⟩ := P1.out.out
  have e1 : (enc (upd m 51 (tf z)))[52]? = some (.int .i64 l) := by rw [enc_i _ _ (by first | exact C1.out | rfl) (by omega) (by omega)]; simp [upd, HL.out]
  go_wp2_with (refine store_i P1.out rfl _ _ rfl _ rfl _ rfl (by first | exact C2.out | rfl) (by omega) (by omega) ?_)
  intro u2 hP hk
  replace hP : Has u2 b (enc (upd (upd m 51 (tf z)) (53) e)) := hP
  have P2 := Lib.hid hP
  have K2 := Lib.hid (K1.out.trans hk)
  clear hP hk P1 K1
  try simp only [Act.put]
  clear hc hf e1
  go_wp2_with (refine store_i P2.out rfl _ _ rfl _ rfl _ rfl (by first | exact C3.out | rfl) (by omega) (by omega) ?_)
  intro u3 hP hk
  replace hP : Has u3 b (enc (upd (upd (upd m 51 (tf z)) (53) e) (54) q)) := hP
  have P3 := Lib.hid hP
  have K3 := Lib.hid (K2.out.trans hk)
  clear hP hk P2 K2
  try simp only [Act.put]
  go_wp2_with fail
  with_reducible refine (S9.out _ P3.out).mono ?_
  rintro q_ u4 ⟨rfl, hP, hk⟩
  have P4 := Lib.hid hP
  have K4 := Lib.hid (K3.out.trans hk)
  clear hP hk P3 K3
  go_wp2
  all_goals first | exact bodyPost_ret (v := .tuple #[]) (by simp [results, Tryd.results23, go_sem]) rfl ⟨rfl, P4.out, K4.out⟩ | exact bodyPost_end (v := .tuple #[]) (by simp [results, Tryd.results23, go_sem]) rfl ⟨rfl, P4.out, K4.out⟩
set_option maxHeartbeats 4000000 in
theorem short_c (b : Nat) (m : M) (HB : ∀ t, t < 4 → 0 ≤ shN m t (t * 5 + 4) ∧ shN m t (t * 5 + 4) ≤ 255 ∧ 0 ≤ shN m t (51 + t * 4 + 1) ∧ shN m t (51 + t * 4 + 1) ≤ 256) (w : World) (h : Has w b (enc m)) : Calls Tryd.prog 24 #[.pointer (some ⟨b, 0, none⟩)] w fun q_ w' => q_ = .returned (.tuple #[]) ∧ Has w' b (enc (shN m 4)) ∧ Keeps b w w' := by
  suffices hall : ∀ w0 : World, Keeps b w0 w → Calls Tryd.prog 24 #[.pointer (some ⟨b, 0, none⟩)] w fun q_ w' => q_ = .returned (.tuple #[]) ∧ Has w' b (enc (shN m 4)) ∧ Keeps b w0 w' from hall w (Keeps.refl b w)
  intro w0 hK
  have P0 := Lib.hid h
  have K0 := Lib.hid hK
  clear h hK
  have SB := Lib.hid HB
  clear HB
  go_enter Tryd.func24, Tryd.ntmps24
  go_wp2
  go_loopg [4] 4 (fun g' i w5 => ∃ (t : Nat), t ≤ 4 ∧ g' + t = 4 ∧ i = .int .i64 t ∧ Keeps b w0 w5 ∧ Has w5 b (enc (shN m t)))
  case atStart => exact ⟨0, by omega, by omega, rfl, K0.out, P0.out⟩
  case round =>
    obtain ⟨w5, hw5⟩ : ∃ q_, q_ = wr := ⟨_, rfl⟩
    subst hw5
    obtain ⟨t, ht, hg, rfl, hB, hP⟩ := hrel
    have TG := Lib.hid hg
    have K5 := Lib.hid hB
    have P5 := Lib.hid hP
    clear hg hB hP P0 K0
    by_cases hlt : t < 4
    · have l1 : (t : Int) < 4 := by omega
      obtain ⟨m1, hm1⟩ : ∃ q_, shN m t = q_ := ⟨_, rfl⟩
      obtain ⟨m2, hm2⟩ : ∃ q_, shN m (t + 1) = q_ := ⟨_, rfl⟩
      have B1 := SB.out t hlt
      rw [hm1] at B1 P5
      obtain ⟨p, hp⟩ : ∃ q_, 51 + t * 4 = q_ := ⟨_, rfl⟩
      have HM := Lib.hid hm2
      have b0 : isB p = true := by subst hp; exact isB_on t hlt
      have b1 : isB (p + 1) = false := by subst hp; exact isB_no t 1 hlt (by omega) (by omega)
      have pp : 51 ≤ p ∧ p ≤ 63 := by omega
      have C0 := Lib.hid b0
      have C1 := Lib.hid b1
      clear b0 b1
      rw [show shN m (t + 1) = sh1V (shN m t) t from rfl, hm1] at hm2
      obtain ⟨x, hx⟩ : ∃ q_, m1 (t * 5 + 4) = q_ := ⟨_, rfl⟩
      obtain ⟨l, hl⟩ : ∃ q_, m1 (p + 1) = q_ := ⟨_, rfl⟩
      rw [show 51 + t * 4 + 1 = p + 1 by omega, hx, hl] at B1
      unfold sh1V at hm2
      rw [hp, hx, hl] at hm2
      obtain ⟨g0, g1, l0, l2⟩ := B1
      have q6 := b64 x g0 (by omega)
      clear hm1
      rcases (show (x / 64 % 2 = 0) ∨ (¬ x / 64 % 2 = 0 ∧ l ≤ 0) ∨ (¬ x / 64 % 2 = 0 ∧ ¬ l ≤ 0 ∧ l - 1 = 0) ∨ (¬ x / 64 % 2 = 0 ∧ ¬ l ≤ 0 ∧ ¬ l - 1 = 0) by omega) with ha | ⟨ha, hb⟩ | ⟨ha, hb, hd⟩ | ⟨ha, hb, hd⟩
      · rw [if_pos (Or.inl ha)] at hm2
        rw [decide_eq_true ha] at q6
        have em := hm2
        clear hm2
        subst em
        have HX := Lib.hid hx
        clear hx
        have HL := Lib.hid hl
        clear hl
        obtain ⟨hc, hf⟩ := P5.out.out
        have e1 : (enc (m1))[p + 1]? = some (.int .i64 l) := by rw [enc_i _ _ C1.out (by omega) (by omega)]; simp [upd, HL.out]
        go_wp2_with fail
        with_reducible refine (register_c b m1 _ 4 t 4 (t * 5 + 4) rfl rfl rfl (by omega) x HX.out _ P5.out).mono ?_
        rintro q_ w' ⟨rfl, rfl⟩
        go_wp2
        go_roundg (4 - (t + 1))
        case measure => have := TG.out; omega
        case rel => exact ⟨t + 1, by omega, by have := TG.out; omega, by first | (simp; done) | (simp; omega), K5.out, by rw [HM.out]; exact P5.out⟩
      · rw [if_pos (Or.inr hb)] at hm2
        rw [decide_eq_false ha] at q6
        have em := hm2
        clear hm2
        subst em
        have HX := Lib.hid hx
        clear hx
        have HL := Lib.hid hl
        clear hl
        obtain ⟨hc, hf⟩ := P5.out.out
        have e1 : (enc (m1))[p + 1]? = some (.int .i64 l) := by rw [enc_i _ _ C1.out (by omega) (by omega)]; simp [upd, HL.out]
        go_wp2_with fail
        with_reducible refine (register_c b m1 _ 4 t 4 (t * 5 + 4) rfl rfl rfl (by omega) x HX.out _ P5.out).mono ?_
        rintro q_ w' ⟨rfl, rfl⟩
        go_wp2
        go_roundg (4 - (t + 1))
        case measure => have := TG.out; omega
        case rel => exact ⟨t + 1, by omega, by have := TG.out; omega, by first | (simp; done) | (simp; omega), K5.out, by rw [HM.out]; exact P5.out⟩
      · rw [if_neg (by omega), if_pos hd, hd] at hm2
        rw [decide_eq_false ha] at q6
        have em := hm2
        clear hm2
        subst em
        have HX := Lib.hid hx
        clear hx
        have HL := Lib.hid hl
        clear hl
        obtain ⟨hc, hf⟩ := P5.out.out
        have e1 : (enc (m1))[p + 1]? = some (.int .i64 l) := by rw [enc_i _ _ C1.out (by omega) (by omega)]; simp [upd, HL.out]
        go_wp2_with fail
        with_reducible refine (register_c b m1 _ 4 t 4 (t * 5 + 4) rfl rfl rfl (by omega) x HX.out _ P5.out).mono ?_
        rintro q_ w' ⟨rfl, rfl⟩
        go_wp2_with (refine store_i P5.out rfl _ _ rfl _ rfl _ rfl (by exact C1.out) (by omega) (by omega) ?_)
        intro u6 hP hk
        replace hP : Has u6 b (enc (upd m1 (p + 1) 0)) := hP
        have P6 := Lib.hid hP
        have K6 := Lib.hid (K5.out.trans hk)
        clear hP hk P5 K5
        try simp only [Act.put]
        clear hc hf e1
        obtain ⟨hc, hf⟩ := P6.out.out
        have e1 : (enc (upd m1 (p + 1) 0))[p + 1]? = some (.int .i64 0) := by rw [enc_i _ _ C1.out (by omega) (by omega)]; simp [upd, HL.out]
        go_wp2_with (refine store_bo P6.out rfl _ _ rfl _ rfl _ rfl (by exact C0.out) (by omega) ?_)
        intro u7 hP hk
        replace hP : Has u7 b (enc (upd (upd m1 (p + 1) 0) p 0)) := hP
        have P7 := Lib.hid hP
        have K7 := Lib.hid (K6.out.trans hk)
        clear hP hk P6 K6
        try simp only [Act.put]
        clear hc hf e1
        obtain ⟨hc, hf⟩ := P7.out.out
        have e1 : (enc (upd (upd m1 (p + 1) 0) p 0))[p + 1]? = some (.int .i64 0) := by rw [enc_i _ _ C1.out (by omega) (by omega)]; simp [upd, HL.out]
        go_wp2
        go_roundg (4 - (t + 1))
        case measure => have := TG.out; omega
        case rel => exact ⟨t + 1, by omega, by have := TG.out; omega, by first | (simp; done) | (simp; omega), K7.out, by rw [HM.out]; exact P7.out⟩
      · rw [if_neg (by omega), if_neg hd] at hm2
        rw [decide_eq_false ha] at q6
        have em := hm2
        clear hm2
        subst em
        have HX := Lib.hid hx
        clear hx
        have HL := Lib.hid hl
        clear hl
        obtain ⟨hc, hf⟩ := P5.out.out
        have e1 : (enc (m1))[p + 1]? = some (.int .i64 l) := by rw [enc_i _ _ C1.out (by omega) (by omega)]; simp [upd, HL.out]
        go_wp2_with fail
        with_reducible refine (register_c b m1 _ 4 t 4 (t * 5 + 4) rfl rfl rfl (by omega) x HX.out _ P5.out).mono ?_
        rintro q_ w' ⟨rfl, rfl⟩
        go_wp2_with (refine store_i P5.out rfl _ _ rfl _ rfl _ rfl (by exact C1.out) (by omega) (by omega) ?_)
        intro u6 hP hk
        replace hP : Has u6 b (enc (upd m1 (p + 1) (l - 1))) := hP
        have P6 := Lib.hid hP
        have K6 := Lib.hid (K5.out.trans hk)
        clear hP hk P5 K5
        try simp only [Act.put]
        clear hc hf e1
        obtain ⟨hc, hf⟩ := P6.out.out
        have e1 : (enc (upd m1 (p + 1) (l - 1)))[p + 1]? = some (.int .i64 (l - 1)) := by rw [enc_i _ _ C1.out (by omega) (by omega)]; simp [upd, HL.out]
        go_wp2
        go_roundg (4 - (t + 1))
        case measure => have := TG.out; omega
        case rel => exact ⟨t + 1, by omega, by have := TG.out; omega, by first | (simp; done) | (simp; omega), K6.out, by rw [HM.out]; exact P6.out⟩
    · have l1 : ¬ (t : Int) < 4 := by omega
      have te : t = 4 := by omega
      subst te
      go_wp2
      all_goals exact bodyPost_end (v := .tuple #[]) (by simp [results, Tryd.results24, go_sem]) rfl ⟨rfl, P5.out, K5.out⟩
theorem chg_c (b : Nat) (m : M) (v : Nat) (x : Int) (h4 : v < 4) (g0 : 0 ≤ x) (g1 : x < 256) (l0 : 0 ≤ m (51 + v * 4 + 2)) (l1 : m (51 + v * 4 + 2) < 16) (k0 : 0 ≤ m (51 + v * 4 + 3)) (k1 : m (51 + v * 4 + 3) < 256) (w : World) (h : Has w b (enc m)) : Calls Tryd.prog 33 #[.pointer (some ⟨b, 51 + v * 4, none⟩), .int .u8 x] w fun q_ w' => q_ = .returned (.tuple #[]) ∧ Has w' b (enc (lev1V m v x)) ∧ Keeps b w w' := by
  have B2 := isB_no v 2 h4 (by omega) (by omega)
  have B3 := isB_no v 3 h4 (by omega) (by omega)
  unfold lev1V
  have pp : 51 ≤ 51 + v * 4 ∧ 51 + v * 4 ≤ 63 := by omega
  generalize 51 + v * 4 = p at *
  by_cases a0 : x % 8 = 0
  · rw [if_pos a0]; exact chg_0 b m p (by omega) (by omega) B2 B3 x _ _ _ rfl g0 g1 rfl rfl l0 l1 k0 k1 a0 w h
  · rw [if_neg a0]
    by_cases a1 : 1 < m (p + 3)
    · rw [if_pos a1]; exact chg_1 b m p (by omega) (by omega) B2 B3 x _ _ _ rfl g0 g1 rfl rfl l0 l1 k0 k1 a0 a1 w h
    · rw [if_neg a1]
      by_cases a2 : x / 8 % 2 = 1
      · rw [if_pos a2]
        by_cases a3 : m (p + 2) < 15
        · rw [if_pos a3]; exact chg_2 b m p (by omega) (by omega) B2 B3 x _ _ _ rfl g0 g1 rfl rfl l0 l1 k0 k1 a0 a1 a2 a3 w h
        · rw [if_neg a3]; exact chg_3 b m p (by omega) (by omega) B2 B3 x _ _ _ rfl g0 g1 rfl rfl l0 l1 k0 k1 a0 a1 a2 a3 w h
      · rw [if_neg a2]
        by_cases a3 : 0 < m (p + 2)
        · rw [if_pos a3]; exact chg_4 b m p (by omega) (by omega) B2 B3 x _ _ _ rfl g0 g1 rfl rfl l0 l1 k0 k1 a0 a1 a2 a3 w h
        · rw [if_neg a3]; exact chg_5 b m p (by omega) (by omega) B2 B3 x _ _ _ rfl g0 g1 rfl rfl l0 l1 k0 k1 a0 a1 a2 a3 w h
set_option maxHeartbeats 4000000 in
theorem lev_c (b : Nat) (m : M) (HB : ∀ t, t < 4 → t ≠ 2 → ∀ W, Has W b (enc (levN m t)) → Calls Tryd.prog 33 #[.pointer (some ⟨b, 51 + t * 4, none⟩), .int .u8 (levN m t (t * 5 + 2))] W fun q_ w' => q_ = .returned (.tuple #[]) ∧ Has w' b (enc (lev1V (levN m t) t (levN m t (t * 5 + 2)))) ∧ Keeps b W w') (w : World) (h : Has w b (enc m)) : Calls Tryd.prog 26 #[.pointer (some ⟨b, 0, none⟩)] w fun q_ w' => q_ = .returned (.tuple #[]) ∧ Has w' b (enc (levN m 4)) ∧ Keeps b w w' := by
  suffices hall : ∀ w0 : World, Keeps b w0 w → Calls Tryd.prog 26 #[.pointer (some ⟨b, 0, none⟩)] w fun q_ w' => q_ = .returned (.tuple #[]) ∧ Has w' b (enc (levN m 4)) ∧ Keeps b w0 w' from hall w (Keeps.refl b w)
  intro w0 hK
  have P0 := Lib.hid h
  have K0 := Lib.hid hK
  clear h hK
  have SB := Lib.hid HB
  clear HB
  go_enter Tryd.func26, Tryd.ntmps26
  go_wp2
  go_loopg [3] 4 (fun g' i w5 => ∃ (t : Nat), t ≤ 4 ∧ g' + t = 4 ∧ i = .int .i64 t ∧ Keeps b w0 w5 ∧ Has w5 b (enc (levN m t)))
  case atStart => exact ⟨0, by omega, by omega, rfl, K0.out, P0.out⟩
  case round =>
    obtain ⟨w5, hw5⟩ : ∃ q_, q_ = wr := ⟨_, rfl⟩
    subst hw5
    obtain ⟨t, ht, hg, rfl, hB, hP⟩ := hrel
    have TG := Lib.hid hg
    have K5 := Lib.hid hB
    have P5 := Lib.hid hP
    clear hg hB hP P0 K0
    by_cases hlt : t < 4
    · have l1 : (t : Int) < 4 := by omega
      obtain ⟨m1, hm1⟩ : ∃ q_, levN m t = q_ := ⟨_, rfl⟩
      obtain ⟨m2, hm2⟩ : ∃ q_, levN m (t + 1) = q_ := ⟨_, rfl⟩
      have B1 := SB.out t hlt
      rw [hm1] at B1 P5
      obtain ⟨p, hp⟩ : ∃ q_, 51 + t * 4 = q_ := ⟨_, rfl⟩
      have HM := Lib.hid hm2
      have pp : 51 ≤ p ∧ p ≤ 63 := by omega
      rw [show levN m (t + 1) = (if t = 2 then levN m t else lev1V (levN m t) t (levN m t (t * 5 + 2))) from rfl, hm1] at hm2
      by_cases h2 : t = 2
      · rw [if_pos h2] at hm2
        subst hm2
        have h3 : (t : Int) = 2 := by omega
        clear B1 hm1
        go_wp2
        go_roundg (4 - (t + 1))
        case measure => have := TG.out; omega
        case rel => exact ⟨t + 1, by omega, by have := TG.out; omega, by first | (simp; done) | (simp; omega), K5.out, by rw [HM.out]; exact P5.out⟩
      · rw [if_neg h2] at hm2
        have h3 : ((t : Int) != 2) = true := by simp; omega
        replace B1 := B1 h2
        obtain ⟨x, hx⟩ : ∃ q_, m1 (t * 5 + 2) = q_ := ⟨_, rfl⟩
        rw [hp] at B1
        rw [hx] at B1 hm2
        have HX := Lib.hid hx
        have SC := Lib.hid B1
        clear B1 hx
        subst hm2
        clear hm1
        go_upto_region 4 with (fail)
        have P6 := Lib.hid P5.out.drew
        have K6 := Lib.hid K5.out.drew
        clear P5 K5
        refine wp_region_held_drew (S := (fun w' => True)) (by kernel_rfl) (trivial) (fun hHeld => ?_)
        generalize World.drew _ = u6 at hHeld P6 K6 ⊢
        refine wpAnyH_take (i := 0) (oi := { dst := some 8, op := Go.Op.move (Go.Operand.tmp 0), type := 51, pos := "steps.go:128", after := #[], guard := none }) (v := ?v1) rfl (by kernel_rfl) (by kernel_rfl) (by kernel_rfl) (fun _ _ _ h => h) (Or.inl ⟨by rfl, ?y1⟩) (by assumption) ?z1
        case y1 => (intro w hSw; (try dsimp only at hSw); go_simp) <;> with_reducible rfl
        try simp only [Act.put, List.setIfInBounds_toArray, List.set_cons_zero, List.set_cons_succ]
        refine wpAnyH_take (i := 1) (oi := { dst := some 9, op := Go.Op.move (Go.Operand.tmp 2), type := 3, pos := "steps.go:128", after := #[], guard := none }) (v := ?v2) rfl (by kernel_rfl) (by kernel_rfl) (by kernel_rfl) (fun _ _ _ h => h) (Or.inl ⟨by rfl, ?y2⟩) (by assumption) ?z2
        case y2 => (intro w hSw; (try dsimp only at hSw); go_simp) <;> with_reducible rfl
        try simp only [Act.put, List.setIfInBounds_toArray, List.set_cons_zero, List.set_cons_succ]
        refine wpAnyH_take (i := 2) (oi := { dst := some 10, op := Go.Op.nilCheck (Go.Operand.tmp 8), type := 0, pos := "steps.go:128", after := #[{ on := 0, ground := Go.Ground.data }], guard := none }) (v := ?v3) rfl (by kernel_rfl) (by kernel_rfl) (by kernel_rfl) (fun _ _ _ h => h) (Or.inl ⟨by rfl, ?y3⟩) (by assumption) ?z3
        case y3 => (intro w hSw; (try dsimp only at hSw); go_simp) <;> with_reducible rfl
        try simp only [Act.put, List.setIfInBounds_toArray, List.set_cons_zero, List.set_cons_succ]
        refine wpAnyH_take (i := 3) (oi := { dst := some 11, op := Go.Op.fieldAddr 29 (Go.Operand.tmp 10) 4, type := 0, pos := "steps.go:128", after := #[{ on := 2, ground := Go.Ground.data }], guard := none }) (v := ?v4) rfl (by kernel_rfl) (by kernel_rfl) (by kernel_rfl) (fun _ _ _ h => h) (Or.inl ⟨by rfl, ?y4⟩) (by assumption) ?z4
        case y4 => (intro w hSw; (try dsimp only at hSw); go_simp) <;> with_reducible rfl
        try simp only [Act.put, List.setIfInBounds_toArray, List.set_cons_zero, List.set_cons_succ]
        refine wpAnyH_take (i := 4) (oi := { dst := some 12, op := Go.Op.indexAddr 27 (Go.Operand.tmp 11) (Go.Operand.tmp 9), type := 0, pos := "steps.go:128", after := #[{ on := 3, ground := Go.Ground.data }, { on := 1, ground := Go.Ground.data }], guard := none }) (v := ?v5) rfl (by kernel_rfl) (by kernel_rfl) (by kernel_rfl) (fun _ _ _ h => h) (Or.inl ⟨by rfl, ?y5⟩) (by assumption) ?z5
        case y5 => (intro w hSw; (try dsimp only at hSw); go_simp) <;> with_reducible rfl
        try simp only [Act.put, List.setIfInBounds_toArray, List.set_cons_zero, List.set_cons_succ]
        refine wpAnyH_take (i := 5) (oi := { dst := some 13, op := Go.Op.move (Go.Operand.tmp 0), type := 51, pos := "steps.go:128", after := #[], guard := none }) (v := ?v6) rfl (by kernel_rfl) (by kernel_rfl) (by kernel_rfl) (fun _ _ _ h => h) (Or.inl ⟨by rfl, ?y6⟩) (by assumption) ?z6
        case y6 => (intro w hSw; (try dsimp only at hSw); go_simp) <;> with_reducible rfl
        try simp only [Act.put, List.setIfInBounds_toArray, List.set_cons_zero, List.set_cons_succ]
        refine wpAnyH_take (i := 6) (oi := { dst := some 14, op := Go.Op.move (Go.Operand.tmp 2), type := 3, pos := "steps.go:128", after := #[], guard := none }) (v := ?v7) rfl (by kernel_rfl) (by kernel_rfl) (by kernel_rfl) (fun _ _ _ h => h) (Or.inl ⟨by rfl, ?y7⟩) (by assumption) ?z7
        case y7 => (intro w hSw; (try dsimp only at hSw); go_simp) <;> with_reducible rfl
        try simp only [Act.put, List.setIfInBounds_toArray, List.set_cons_zero, List.set_cons_succ]
        refine wpAnyH_ready (rs := [7]) (by kernel_rfl) (by simp) ?_
        refine (AllReadyH.cons (o := { dst := some 15, op := Go.Op.call { callee := Go.Callee.value (Go.Operand.func 22), args := #[Go.Operand.tmp 13, Go.Operand.tmp 14, Go.Operand.const (Go.Value.int Go.IntKind.i64 2)], argTypes := #[51, 3, 3] }, type := 5, pos := "steps.go:128", after := #[{ on := 5, ground := Go.Ground.data }, { on := 6, ground := Go.Ground.data }], guard := none }) rfl (fun K hK => ?_) AllReadyH.nil)
        · skip
          go_simp
          with_reducible refine (register_c b m1 _ 2 t 2 (t * 5 + 2) rfl rfl rfl (by omega) x HX.out _ P6.out).mono ?_
          rintro q_ u7 ⟨rfl, hb⟩
          subst hb
          have P7 := P6
          have K7 := K6
          clear P6 K6
          refine hK.out _ _ ?s8 (fun hNew => ?r8)
          case s8 => exact (trivial)
          clear hK K hHeld
          have hHeld := hNew
          clear hNew
          refine wpAnyH_ready (rs := [8]) (by kernel_rfl) (by simp) ?_
          refine (AllReadyH.cons (o := { dst := some 16, op := Go.Op.call { callee := Go.Callee.value (Go.Operand.func 33), args := #[Go.Operand.tmp 12, Go.Operand.tmp 15], argTypes := #[26, 5] }, type := 0, pos := "steps.go:128", after := #[{ on := 4, ground := Go.Ground.data }, { on := 7, ground := Go.Ground.data }, { on := 7, ground := Go.Ground.chain }], guard := none }) rfl (fun K hK => ?_) AllReadyH.nil)
          · skip
            go_simp
            with_reducible refine (SC.out _ P7.out).mono ?_
            rintro q_ u8 ⟨rfl, hP, hk⟩
            have P8 := Lib.hid hP
            have K8 := Lib.hid (K7.out.trans hk)
            clear hP hk
            clear P7 K7
            refine hK.out _ _ ?s9 (fun hNew => ?r9)
            case s9 => exact (trivial)
            clear hK K hHeld
            have hHeld := hNew
            clear hNew
            refine wpAnyH_done (by kernel_rfl) ?_ _
            clear hHeld
            go_wp2
            go_roundg (4 - (t + 1))
            case measure => have := TG.out; omega
            case rel => exact ⟨t + 1, by omega, by have := TG.out; omega, by first | (simp; done) | (simp; omega), K8.out, by rw [HM.out]; exact P8.out⟩
    · have l1 : ¬ (t : Int) < 4 := by omega
      have te : t = 4 := by omega
      subst te
      go_wp2
      all_goals exact bodyPost_end (v := .tuple #[]) (by simp [results, Tryd.results26, go_sem]) rfl ⟨rfl, P5.out, K5.out⟩
end Go.Proofs.YtonmnpadmphbdaaDoor
