/-
  A cycle: for every unit as it can be; no other condition.
-/
import Derived.Test.YtpfbodmadmneiaaPn
import Derived.Deep.Cut
import Derived.BigQuiet
import Derived.WalkSmall
namespace Go.Proofs.Ytpfbodmadmneiaa
open Go.ChangeShapes Go.WideShapes Go.ChangeAt Go.RowKit
set_option linter.unusedVariables false
set_option linter.unusedSimpArgs false
set_option maxRecDepth 100000
set_option maxHeartbeats 2000000 in
theorem tick_off (b : Nat) (m : M) (c : Int) (hc : m 8352 = c) (c0 : 0 ≤ c) (c1 : c < 256)  (hz : decide (128 ≤ c) = false) (w : World) (h : Has w b (encU m)) : Calls Try.prog 22 #[.pointer (some ⟨b, 0, none⟩)] w fun q_ w' => q_ = .returned (.int .u8 0) ∧ Has w' b (encU (m)) ∧ Keeps b w w' := by
  suffices hall : ∀ w0 : World, Keeps b w0 w → Calls Try.prog 22 #[.pointer (some ⟨b, 0, none⟩)] w fun q_ w' => q_ = .returned (.int .u8 0) ∧ Has w' b (encU (m)) ∧ Keeps b w0 w' from hall w (Keeps.refl b w)
  intro w0 hK
  have P0 := Lib.hid h
  have K0 := Lib.hid hK
  clear h hK
  have Hc := Lib.hid hc
  clear hc
  have HZ := Lib.hid hz
  clear hz
  have hnot : ∀ (x : Bool) (w : World), (Op.unary .not (.bool x)).run Try.prog w = .ok (.bool (!x)) w := fun _ _ => rfl
  go_enter Try.func22, Try.ntmps22
  go_wp2_with (fail)
  with_reducible refine (on_c b m c Hc.out c0 c1 false HZ.out _ P0.out).mono ?_
  rintro q_ w' ⟨rfl, rfl⟩
  go_wp2
  all_goals first | exact bodyPost_ret (v := .int .u8 0) (by simp [results, Try.results22, go_sem]) rfl ⟨rfl, P0.out, K0.out⟩ | exact bodyPost_end (v := .int .u8 0) (by simp [results, Try.results22, go_sem]) rfl ⟨rfl, P0.out, K0.out⟩
set_option maxHeartbeats 4000000 in
theorem tick_A (b : Nat) (m : M) (c : Int) (hc : m 8352 = c) (c0 : 0 ≤ c) (c1 : c < 256) (d : Int) (hd : m 8363 = d) (d0 : 0 ≤ d) (d1 : d < 256) (L : Int) (hL : m 8356 = L) (L0 : 0 ≤ L) (L1 : L < 256)  (hz : decide (128 ≤ c) = true) (D : Int) (hD : d + 1 = D) (hD2 : D < 256) (h63 : (D == 63) = true) (h114 : (D == 114) = false) (hLt : decide (L < 144) = true) (m2 m3 m4 : M) (h8 : m2 8363 = D) (r rn rr : Int) (hr : IntKind.u8.wrap (rn + r) = rr) (HR : ∀ W, Has W b (encU (upd m 8363 D)) → Calls Try.prog 44 #[.pointer (some ⟨b, 0, none⟩)] W fun q_ w' => q_ = .returned (.tuple #[]) ∧ Has w' b (encU m2) ∧ Keeps b W w') (hm3 : m2 = m3) (hrn : rn = 0) (HS : ∀ W, Has W b (encU m3) → Calls Try.prog 41 #[.pointer (some ⟨b, 0, none⟩)] W fun q_ w' => q_ = .returned (.int .u8 r) ∧ Has w' b (encU m4) ∧ Keeps b W w') (w : World) (h : Has w b (encU m)) : Calls Try.prog 22 #[.pointer (some ⟨b, 0, none⟩)] w fun q_ w' => q_ = .returned (.int .u8 rr) ∧ Has w' b (encU (m4)) ∧ Keeps b w w' := by
  suffices hall : ∀ w0 : World, Keeps b w0 w → Calls Try.prog 22 #[.pointer (some ⟨b, 0, none⟩)] w fun q_ w' => q_ = .returned (.int .u8 rr) ∧ Has w' b (encU (m4)) ∧ Keeps b w0 w' from hall w (Keeps.refl b w)
  intro w0 hK
  have P0 := Lib.hid h
  have K0 := Lib.hid hK
  clear h hK
  have Hc := Lib.hid hc
  clear hc
  have Hd := Lib.hid hd
  clear hd
  have HL := Lib.hid hL
  clear hL
  have HZ := Lib.hid hz
  have H8 := Lib.hid h8
  have HD := Lib.hid hD
  have SS := Lib.hid HS
  clear hz h8 hD HS
  have hw : IntKind.u8.wrap (d + 1) = D := by rw [IntKind.wrap_u8]; have := HD.out; omega
  have SR := Lib.hid HR
  clear HR
  subst hrn
  have E3 := Lib.hid hm3
  clear hm3
  have hr2 : IntKind.u8.wrap r = rr := by simpa using hr
  have hnot : ∀ (x : Bool) (w : World), (Op.unary .not (.bool x)).run Try.prog w = .ok (.bool (!x)) w := fun _ _ => rfl
  go_enter Try.func22, Try.ntmps22
  go_wp2_with (fail)
  with_reducible refine (on_c b m c Hc.out c0 c1 true HZ.out _ P0.out).mono ?_
  rintro q_ w' ⟨rfl, rfl⟩
  obtain ⟨hc, hf⟩ := P0.out.out
  have e_d : (encU (m))[8363]? = some (.int .u8 d) := (encU_u _ 8363 (by decide) (by decide) (by decide)).trans (congrArg (fun x => some (Value.int .u8 x)) (Hd.out))
  go_wp2_with (refine ust_u P0.out rfl _ _ rfl _ rfl _ rfl (by omega) (by omega) (by omega) ?_)
  intro u1 hP hk
  clear hc hf e_d
  replace hP : Has u1 b (encU (upd m 8363 D)) := hP
  have P1 := Lib.hid hP
  have K1 := Lib.hid (K0.out.trans hk)
  clear hP hk P0 K0
  try simp only [Act.put]
  obtain ⟨hc, hf⟩ := P1.out.out
  have e_d : (encU (upd m 8363 D))[8363]? = some (.int .u8 D) := (encU_u _ 8363 (by decide) (by decide) (by decide)).trans (congrArg (fun x => some (Value.int .u8 x)) (upd_same _ _ _))
  have e_L : (encU (upd m 8363 D))[8356]? = some (.int .u8 L) := (encU_u _ 8356 (by decide) (by decide) (by decide)).trans (congrArg (fun x => some (Value.int .u8 x)) (HL.out))
  go_wp2_with (fail)
  clear hc hf e_d e_L
  with_reducible refine (SR.out _ P1.out).mono ?_
  rintro q_ u2 ⟨rfl, hP, hk⟩
  have P2 := Lib.hid hP
  have K2 := Lib.hid (K1.out.trans hk)
  clear hP hk P1 K1
  obtain ⟨hc, hf⟩ := P2.out.out
  have e_d : (encU (m2))[8363]? = some (.int .u8 D) := (encU_u _ 8363 (by decide) (by decide) (by decide)).trans (congrArg (fun x => some (Value.int .u8 x)) (H8.out))
  go_wp2_with (fail)
  clear hc hf e_d
  rw [E3.out] at P2
  with_reducible refine (SS.out _ P2.out).mono ?_
  rintro q_ u3 ⟨rfl, hP, hk⟩
  have P3 := Lib.hid hP
  have K3 := Lib.hid (K2.out.trans hk)
  clear hP hk P2 K2
  go_wp2
  all_goals first | exact bodyPost_ret (v := .int .u8 rr) (by simp [results, Try.results22, go_sem]) rfl ⟨rfl, P3.out, K3.out⟩ | exact bodyPost_end (v := .int .u8 rr) (by simp [results, Try.results22, go_sem]) rfl ⟨rfl, P3.out, K3.out⟩
set_option maxHeartbeats 4000000 in
theorem tick_B (b : Nat) (m : M) (c : Int) (hc : m 8352 = c) (c0 : 0 ≤ c) (c1 : c < 256) (d : Int) (hd : m 8363 = d) (d0 : 0 ≤ d) (d1 : d < 256) (L : Int) (hL : m 8356 = L) (L0 : 0 ≤ L) (L1 : L < 256)  (hz : decide (128 ≤ c) = true) (D : Int) (hD : d + 1 = D) (hD2 : D < 256) (h63 : (D == 63) = true) (h114 : (D == 114) = false) (hLt : decide (L < 144) = false) (m2 m3 m4 : M) (h8 : m2 8363 = D) (r rn rr : Int) (hr : IntKind.u8.wrap (rn + r) = rr) (hm2 : upd m 8363 D = m2) (hm3 : m2 = m3) (hrn : rn = 0) (HS : ∀ W, Has W b (encU m3) → Calls Try.prog 41 #[.pointer (some ⟨b, 0, none⟩)] W fun q_ w' => q_ = .returned (.int .u8 r) ∧ Has w' b (encU m4) ∧ Keeps b W w') (w : World) (h : Has w b (encU m)) : Calls Try.prog 22 #[.pointer (some ⟨b, 0, none⟩)] w fun q_ w' => q_ = .returned (.int .u8 rr) ∧ Has w' b (encU (m4)) ∧ Keeps b w w' := by
  suffices hall : ∀ w0 : World, Keeps b w0 w → Calls Try.prog 22 #[.pointer (some ⟨b, 0, none⟩)] w fun q_ w' => q_ = .returned (.int .u8 rr) ∧ Has w' b (encU (m4)) ∧ Keeps b w0 w' from hall w (Keeps.refl b w)
  intro w0 hK
  have P0 := Lib.hid h
  have K0 := Lib.hid hK
  clear h hK
  have Hc := Lib.hid hc
  clear hc
  have Hd := Lib.hid hd
  clear hd
  have HL := Lib.hid hL
  clear hL
  have HZ := Lib.hid hz
  have H8 := Lib.hid h8
  have HD := Lib.hid hD
  have SS := Lib.hid HS
  clear hz h8 hD HS
  have hw : IntKind.u8.wrap (d + 1) = D := by rw [IntKind.wrap_u8]; have := HD.out; omega
  have E2 := Lib.hid hm2
  clear hm2
  subst hrn
  have E3 := Lib.hid hm3
  clear hm3
  have hr2 : IntKind.u8.wrap r = rr := by simpa using hr
  have hnot : ∀ (x : Bool) (w : World), (Op.unary .not (.bool x)).run Try.prog w = .ok (.bool (!x)) w := fun _ _ => rfl
  go_enter Try.func22, Try.ntmps22
  go_wp2_with (fail)
  with_reducible refine (on_c b m c Hc.out c0 c1 true HZ.out _ P0.out).mono ?_
  rintro q_ w' ⟨rfl, rfl⟩
  obtain ⟨hc, hf⟩ := P0.out.out
  have e_d : (encU (m))[8363]? = some (.int .u8 d) := (encU_u _ 8363 (by decide) (by decide) (by decide)).trans (congrArg (fun x => some (Value.int .u8 x)) (Hd.out))
  go_wp2_with (refine ust_u P0.out rfl _ _ rfl _ rfl _ rfl (by omega) (by omega) (by omega) ?_)
  intro u1 hP hk
  clear hc hf e_d
  replace hP : Has u1 b (encU (upd m 8363 D)) := hP
  have P1 := Lib.hid hP
  have K1 := Lib.hid (K0.out.trans hk)
  clear hP hk P0 K0
  try simp only [Act.put]
  obtain ⟨hc, hf⟩ := P1.out.out
  have e_d : (encU (upd m 8363 D))[8363]? = some (.int .u8 D) := (encU_u _ 8363 (by decide) (by decide) (by decide)).trans (congrArg (fun x => some (Value.int .u8 x)) (upd_same _ _ _))
  have e_L : (encU (upd m 8363 D))[8356]? = some (.int .u8 L) := (encU_u _ 8356 (by decide) (by decide) (by decide)).trans (congrArg (fun x => some (Value.int .u8 x)) (HL.out))
  go_wp2_with (fail)
  clear hc hf e_d e_L
  rw [E2.out] at P1
  rw [E3.out] at P1
  with_reducible refine (SS.out _ P1.out).mono ?_
  rintro q_ u2 ⟨rfl, hP, hk⟩
  have P2 := Lib.hid hP
  have K2 := Lib.hid (K1.out.trans hk)
  clear hP hk P1 K1
  go_wp2
  all_goals first | exact bodyPost_ret (v := .int .u8 rr) (by simp [results, Try.results22, go_sem]) rfl ⟨rfl, P2.out, K2.out⟩ | exact bodyPost_end (v := .int .u8 rr) (by simp [results, Try.results22, go_sem]) rfl ⟨rfl, P2.out, K2.out⟩
set_option maxHeartbeats 4000000 in
theorem tick_C (b : Nat) (m : M) (c : Int) (hc : m 8352 = c) (c0 : 0 ≤ c) (c1 : c < 256) (d : Int) (hd : m 8363 = d) (d0 : 0 ≤ d) (d1 : d < 256) (L : Int) (hL : m 8356 = L) (L0 : 0 ≤ L) (L1 : L < 256)  (hz : decide (128 ≤ c) = true) (D : Int) (hD : d + 1 = D) (hD2 : D < 256) (h63 : (D == 63) = false) (h114 : (D == 114) = false) (m2 m3 m4 : M) (h8 : m2 8363 = D) (r rn rr : Int) (hr : IntKind.u8.wrap (rn + r) = rr) (hm2 : upd m 8363 D = m2) (hm3 : m2 = m3) (hrn : rn = 0) (HS : ∀ W, Has W b (encU m3) → Calls Try.prog 41 #[.pointer (some ⟨b, 0, none⟩)] W fun q_ w' => q_ = .returned (.int .u8 r) ∧ Has w' b (encU m4) ∧ Keeps b W w') (w : World) (h : Has w b (encU m)) : Calls Try.prog 22 #[.pointer (some ⟨b, 0, none⟩)] w fun q_ w' => q_ = .returned (.int .u8 rr) ∧ Has w' b (encU (m4)) ∧ Keeps b w w' := by
  suffices hall : ∀ w0 : World, Keeps b w0 w → Calls Try.prog 22 #[.pointer (some ⟨b, 0, none⟩)] w fun q_ w' => q_ = .returned (.int .u8 rr) ∧ Has w' b (encU (m4)) ∧ Keeps b w0 w' from hall w (Keeps.refl b w)
  intro w0 hK
  have P0 := Lib.hid h
  have K0 := Lib.hid hK
  clear h hK
  have Hc := Lib.hid hc
  clear hc
  have Hd := Lib.hid hd
  clear hd
  have HL := Lib.hid hL
  clear hL
  have HZ := Lib.hid hz
  have H8 := Lib.hid h8
  have HD := Lib.hid hD
  have SS := Lib.hid HS
  clear hz h8 hD HS
  have hw : IntKind.u8.wrap (d + 1) = D := by rw [IntKind.wrap_u8]; have := HD.out; omega
  have E2 := Lib.hid hm2
  clear hm2
  subst hrn
  have E3 := Lib.hid hm3
  clear hm3
  have hr2 : IntKind.u8.wrap r = rr := by simpa using hr
  have hnot : ∀ (x : Bool) (w : World), (Op.unary .not (.bool x)).run Try.prog w = .ok (.bool (!x)) w := fun _ _ => rfl
  go_enter Try.func22, Try.ntmps22
  go_wp2_with (fail)
  with_reducible refine (on_c b m c Hc.out c0 c1 true HZ.out _ P0.out).mono ?_
  rintro q_ w' ⟨rfl, rfl⟩
  obtain ⟨hc, hf⟩ := P0.out.out
  have e_d : (encU (m))[8363]? = some (.int .u8 d) := (encU_u _ 8363 (by decide) (by decide) (by decide)).trans (congrArg (fun x => some (Value.int .u8 x)) (Hd.out))
  go_wp2_with (refine ust_u P0.out rfl _ _ rfl _ rfl _ rfl (by omega) (by omega) (by omega) ?_)
  intro u1 hP hk
  clear hc hf e_d
  replace hP : Has u1 b (encU (upd m 8363 D)) := hP
  have P1 := Lib.hid hP
  have K1 := Lib.hid (K0.out.trans hk)
  clear hP hk P0 K0
  try simp only [Act.put]
  obtain ⟨hc, hf⟩ := P1.out.out
  have e_d : (encU (upd m 8363 D))[8363]? = some (.int .u8 D) := (encU_u _ 8363 (by decide) (by decide) (by decide)).trans (congrArg (fun x => some (Value.int .u8 x)) (upd_same _ _ _))
  have e_L : (encU (upd m 8363 D))[8356]? = some (.int .u8 L) := (encU_u _ 8356 (by decide) (by decide) (by decide)).trans (congrArg (fun x => some (Value.int .u8 x)) (HL.out))
  go_wp2_with (fail)
  clear hc hf e_d e_L
  rw [E2.out] at P1
  rw [E3.out] at P1
  with_reducible refine (SS.out _ P1.out).mono ?_
  rintro q_ u2 ⟨rfl, hP, hk⟩
  have P2 := Lib.hid hP
  have K2 := Lib.hid (K1.out.trans hk)
  clear hP hk P1 K1
  go_wp2
  all_goals first | exact bodyPost_ret (v := .int .u8 rr) (by simp [results, Try.results22, go_sem]) rfl ⟨rfl, P2.out, K2.out⟩ | exact bodyPost_end (v := .int .u8 rr) (by simp [results, Try.results22, go_sem]) rfl ⟨rfl, P2.out, K2.out⟩
set_option maxHeartbeats 4000000 in
theorem tick_D (b : Nat) (m : M) (c : Int) (hc : m 8352 = c) (c0 : 0 ≤ c) (c1 : c < 256) (d : Int) (hd : m 8363 = d) (d0 : 0 ≤ d) (d1 : d < 256) (L : Int) (hL : m 8356 = L) (L0 : 0 ≤ L) (L1 : L < 256)  (hz : decide (128 ≤ c) = true) (D : Int) (hD : d + 1 = D) (hD2 : D < 256) (h63 : (D == 63) = false) (h114 : (D == 114) = true) (m2 m3 m4 : M) (h8 : m2 8363 = D) (r rn rr : Int) (hr : IntKind.u8.wrap (rn + r) = rr) (hm2 : upd m 8363 D = m2) (HX : ∀ W, Has W b (encU m2) → Calls Try.prog 45 #[.pointer (some ⟨b, 0, none⟩)] W fun q_ w' => q_ = .returned (.int .u8 rn) ∧ Has w' b (encU m3) ∧ Keeps b W w') (HS : ∀ W, Has W b (encU m3) → Calls Try.prog 41 #[.pointer (some ⟨b, 0, none⟩)] W fun q_ w' => q_ = .returned (.int .u8 r) ∧ Has w' b (encU m4) ∧ Keeps b W w') (w : World) (h : Has w b (encU m)) : Calls Try.prog 22 #[.pointer (some ⟨b, 0, none⟩)] w fun q_ w' => q_ = .returned (.int .u8 rr) ∧ Has w' b (encU (m4)) ∧ Keeps b w w' := by
  suffices hall : ∀ w0 : World, Keeps b w0 w → Calls Try.prog 22 #[.pointer (some ⟨b, 0, none⟩)] w fun q_ w' => q_ = .returned (.int .u8 rr) ∧ Has w' b (encU (m4)) ∧ Keeps b w0 w' from hall w (Keeps.refl b w)
  intro w0 hK
  have P0 := Lib.hid h
  have K0 := Lib.hid hK
  clear h hK
  have Hc := Lib.hid hc
  clear hc
  have Hd := Lib.hid hd
  clear hd
  have HL := Lib.hid hL
  clear hL
  have HZ := Lib.hid hz
  have H8 := Lib.hid h8
  have HD := Lib.hid hD
  have SS := Lib.hid HS
  clear hz h8 hD HS
  have hw : IntKind.u8.wrap (d + 1) = D := by rw [IntKind.wrap_u8]; have := HD.out; omega
  have E2 := Lib.hid hm2
  clear hm2
  have SX := Lib.hid HX
  clear HX
  have hnot : ∀ (x : Bool) (w : World), (Op.unary .not (.bool x)).run Try.prog w = .ok (.bool (!x)) w := fun _ _ => rfl
  go_enter Try.func22, Try.ntmps22
  go_wp2_with (fail)
  with_reducible refine (on_c b m c Hc.out c0 c1 true HZ.out _ P0.out).mono ?_
  rintro q_ w' ⟨rfl, rfl⟩
  obtain ⟨hc, hf⟩ := P0.out.out
  have e_d : (encU (m))[8363]? = some (.int .u8 d) := (encU_u _ 8363 (by decide) (by decide) (by decide)).trans (congrArg (fun x => some (Value.int .u8 x)) (Hd.out))
  go_wp2_with (refine ust_u P0.out rfl _ _ rfl _ rfl _ rfl (by omega) (by omega) (by omega) ?_)
  intro u1 hP hk
  clear hc hf e_d
  replace hP : Has u1 b (encU (upd m 8363 D)) := hP
  have P1 := Lib.hid hP
  have K1 := Lib.hid (K0.out.trans hk)
  clear hP hk P0 K0
  try simp only [Act.put]
  obtain ⟨hc, hf⟩ := P1.out.out
  have e_d : (encU (upd m 8363 D))[8363]? = some (.int .u8 D) := (encU_u _ 8363 (by decide) (by decide) (by decide)).trans (congrArg (fun x => some (Value.int .u8 x)) (upd_same _ _ _))
  have e_L : (encU (upd m 8363 D))[8356]? = some (.int .u8 L) := (encU_u _ 8356 (by decide) (by decide) (by decide)).trans (congrArg (fun x => some (Value.int .u8 x)) (HL.out))
  go_wp2_with (fail)
  clear hc hf e_d e_L
  rw [E2.out] at P1
  with_reducible refine (SX.out _ P1.out).mono ?_
  rintro q_ u2 ⟨rfl, hP, hk⟩
  have P2 := Lib.hid hP
  have K2 := Lib.hid (K1.out.trans hk)
  clear hP hk P1 K1
  go_wp2_with (fail)
  with_reducible refine (SS.out _ P2.out).mono ?_
  rintro q_ u3 ⟨rfl, hP, hk⟩
  have P3 := Lib.hid hP
  have K3 := Lib.hid (K2.out.trans hk)
  clear hP hk P2 K2
  go_wp2
  all_goals first | exact bodyPost_ret (v := .int .u8 rr) (by simp [results, Try.results22, go_sem]) rfl ⟨rfl, P3.out, K3.out⟩ | exact bodyPost_end (v := .int .u8 rr) (by simp [results, Try.results22, go_sem]) rfl ⟨rfl, P3.out, K3.out⟩
theorem lineE_ok (F : M) (c sx sy wx wy line own : Int) : okB (lineE F c sx sy wx wy line own) := fun i => by
  unfold lineE
  split
  · unfold firstN
    split
    · unfold lineV
      split
      · have := winV_bd F c ((i : Int) + 7 - wx) own; omega
      · have := backV_bd F c sx sy (i : Int) line; omega
    · decide
  · rw [zero_at]; decide
/-- A line is rendered. -/
theorem ren_c (b : Nat) (m : M) (B : ∀ o, o < 31407 → o ≠ 8365 → 0 ≤ m o ∧ m o < 256) (BL : m 8356 < 144) (ow2 : m 8364 < 255) (w : World) (h : Has w b (encU m)) : Calls Try.prog 44 #[.pointer (some ⟨b, 0, none⟩)] w fun q_ w' => q_ = .returned (.tuple #[]) ∧ Has w' b (encU (renM m)) ∧ Keeps b w w' := by
  have B0 := fun o (h1 : o < 31407) (h2 : o ≠ 8365) => (B o h1 h2).1
  have B1 := fun o (h1 : o < 31407) (h2 : o ≠ 8365) => (B o h1 h2).2
  obtain ⟨n, hn⟩ := Int.eq_ofNat_of_zero_le (B0 8356 (by decide) (by decide))
  have hk : 8367 + 160 * (m 8356).toNat = 8367 + n * 160 := by rw [hn]; simp [Nat.mul_comm]
  have hR : rowM m = firstN (outV (m 8352) (m 8358) (m 8359) (m 8360) (vid m) (oam m) n (lineE (vid m) (m 8352) (m 8355) (m 8354) (m 8362) (m 8361) n (m 8364))) 160 := by unfold rowM; rw [hn]
  unfold renM drawM
  rw [hk]
  cases hs : seenM m with
  | true =>
    rw [if_pos rfl]
    exact ren_1 b m _ rfl (B0 8352 (by decide) (by decide)) (B1 8352 (by decide) (by decide)) _ rfl (B0 8354 (by decide) (by decide)) (B1 8354 (by decide) (by decide)) _ rfl (B0 8355 (by decide) (by decide)) (B1 8355 (by decide) (by decide)) _ rfl (B0 8358 (by decide) (by decide)) (B1 8358 (by decide) (by decide)) _ rfl (B0 8359 (by decide) (by decide)) (B1 8359 (by decide) (by decide)) _ rfl (B0 8360 (by decide) (by decide)) (B1 8360 (by decide) (by decide)) _ rfl (B0 8361 (by decide) (by decide)) (B1 8361 (by decide) (by decide)) _ rfl (B0 8362 (by decide) (by decide)) (B1 8362 (by decide) (by decide)) _ rfl (B0 8364 (by decide) (by decide)) (B1 8364 (by decide) (by decide)) B n hn (by omega) (by rw [← hs]; unfold seenM; rw [hn]) _ rfl _ hR.symm (lineE_ok _ _ _ _ _ _ _ _) ow2 w h
  | false =>
    rw [if_neg (by decide)]
    exact ren_0 b m _ rfl (B0 8352 (by decide) (by decide)) (B1 8352 (by decide) (by decide)) _ rfl (B0 8354 (by decide) (by decide)) (B1 8354 (by decide) (by decide)) _ rfl (B0 8355 (by decide) (by decide)) (B1 8355 (by decide) (by decide)) _ rfl (B0 8358 (by decide) (by decide)) (B1 8358 (by decide) (by decide)) _ rfl (B0 8359 (by decide) (by decide)) (B1 8359 (by decide) (by decide)) _ rfl (B0 8360 (by decide) (by decide)) (B1 8360 (by decide) (by decide)) _ rfl (B0 8361 (by decide) (by decide)) (B1 8361 (by decide) (by decide)) _ rfl (B0 8362 (by decide) (by decide)) (B1 8362 (by decide) (by decide)) _ rfl (B0 8364 (by decide) (by decide)) (B1 8364 (by decide) (by decide)) B n hn (by omega) (by rw [← hs]; unfold seenM; rw [hn]) _ rfl _ hR.symm (lineE_ok _ _ _ _ _ _ _ _) ow2 w h
theorem wrap_sum (x y : Int) (h : 0 ≤ x ∧ x ≤ 1) (k : 0 ≤ y ∧ y ≤ 2) : IntKind.u8.wrap (x + y) = x + y := by rw [IntKind.wrap_u8]; omega
theorem askM_bd (m : M) : 0 ≤ askM m ∧ askM m ≤ 2 := by unfold askM; split <;> decide
theorem nextR_bd (m : M) : 0 ≤ nextR m ∧ nextR m ≤ 1 := by unfold nextR; split <;> decide
/-- A cycle. -/
theorem tick_c (b : Nat) (m : M) (ok : Ok m) (w : World) (h : Has w b (encU m)) : Calls Try.prog 22 #[.pointer (some ⟨b, 0, none⟩)] w fun q_ w' => q_ = .returned (.int .u8 (tickR m)) ∧ Has w' b (encU (tickM m)) ∧ Keeps b w w' := by
  have B := ok.byte
  have hd := ok.dot
  have hl := ok.line
  have ho := ok.own
  by_cases a : 128 ≤ m 8352
  · have hz : decide (128 ≤ m 8352) = true := by simpa using a
    have ht : tickM m = sgM (turnM m) := by unfold tickM; rw [if_pos a]
    have hr : tickR m = turnR m + askM (turnM m) := by unfold tickR; rw [if_pos a]
    rw [ht, hr]
    have HS : ∀ W, Has W b (encU (turnM m)) → _ := fun W hW => signal_c b (turnM m) (ok_turn ok) W hW
    have h8 : midM m 8363 = m 8363 + 1 := mid_dot m
    have D256 : m 8363 + 1 < 256 := by omega
    by_cases g : m 8363 + 1 = 114
    · have hm : dotM m = midM m := by unfold midM; rw [if_neg (by omega)]
      have tM : turnM m = nextM (midM m) := by unfold turnM; rw [if_pos g]
      have tR : turnR m = nextR (midM m) := by unfold turnR; rw [if_pos g]
      rw [tR]
      rw [tM] at HS ⊢
      have mb : ∀ o, o < 31407 → o ≠ 8365 → 0 ≤ midM m o ∧ midM m o < 256 := fun o h1 h2 => by
        rw [← hm]
        by_cases q : o = 8363
        · subst q
          have e : dotM m 8363 = m 8363 + 1 := upd_same _ _ _
          have := B 8363 (by decide) (by decide)
          omega
        · have e : dotM m o = m o := upd_ne _ _ _ _ q
          rw [e]; exact B o h1 h2
      have HX := fun W hW => next_c b (midM m) mb (by rw [mid_at _ _ (by omega) (by omega) (by omega)]; exact ok.fr) (by rw [mid_line]; exact hl) W hW
      exact tick_D b m _ rfl (B 8352 (by decide) (by decide)).1 (B 8352 (by decide) (by decide)).2 _ rfl (B 8363 (by decide) (by decide)).1 (B 8363 (by decide) (by decide)).2 _ rfl (B 8356 (by decide) (by decide)).1 (B 8356 (by decide) (by decide)).2 hz _ rfl D256 (by simp; omega) (by simpa using g) _ _ _ h8 _ _ _ (wrap_sum _ _ (nextR_bd _) (askM_bd _)) hm HX HS w h
    · have tM : midM m = turnM m := by unfold turnM; rw [if_neg g]
      have tR : turnR m = 0 := by unfold turnR; rw [if_neg g]
      rw [tR]
      have g' : (m 8363 + 1 == 114) = false := by simpa using g
      by_cases g3 : m 8363 + 1 = 63
      · have g3' : (m 8363 + 1 == 63) = true := by simpa using g3
        by_cases gl : m 8356 < 144
        · have hm : renM (dotM m) = midM m := by unfold midM; rw [if_pos ⟨g3, gl⟩]
          have HR : ∀ W, Has W b (encU (dotM m)) → _ := fun W hW => ren_c b (dotM m) (fun o h1 h2 => by
            by_cases q : o = 8363
            · subst q
              have e : dotM m 8363 = m 8363 + 1 := upd_same _ _ _
              omega
            · have e : dotM m o = m o := upd_ne _ _ _ _ q
              rw [e]; exact B o h1 h2) (by have e : dotM m 8356 = m 8356 := upd_ne _ _ _ _ (by omega)
                                           omega) (by have e : dotM m 8364 = m 8364 := upd_ne _ _ _ _ (by omega)
                                                      split at ho <;> omega) W hW
          rw [hm] at HR
          exact tick_A b m _ rfl (B 8352 (by decide) (by decide)).1 (B 8352 (by decide) (by decide)).2 _ rfl (B 8363 (by decide) (by decide)).1 (B 8363 (by decide) (by decide)).2 _ rfl (B 8356 (by decide) (by decide)).1 (B 8356 (by decide) (by decide)).2 hz _ rfl D256 g3' g' (by simpa using gl) _ _ _ h8 _ 0 _ (wrap_sum _ _ (by decide) (askM_bd _)) HR tM rfl HS w h
        · have hm : dotM m = midM m := by unfold midM; rw [if_neg (by omega)]
          exact tick_B b m _ rfl (B 8352 (by decide) (by decide)).1 (B 8352 (by decide) (by decide)).2 _ rfl (B 8363 (by decide) (by decide)).1 (B 8363 (by decide) (by decide)).2 _ rfl (B 8356 (by decide) (by decide)).1 (B 8356 (by decide) (by decide)).2 hz _ rfl D256 g3' g' (by simpa using gl) _ _ _ h8 _ 0 _ (wrap_sum _ _ (by decide) (askM_bd _)) hm tM rfl HS w h
      · have hm : dotM m = midM m := by unfold midM; rw [if_neg (by omega)]
        exact tick_C b m _ rfl (B 8352 (by decide) (by decide)).1 (B 8352 (by decide) (by decide)).2 _ rfl (B 8363 (by decide) (by decide)).1 (B 8363 (by decide) (by decide)).2 _ rfl (B 8356 (by decide) (by decide)).1 (B 8356 (by decide) (by decide)).2 hz _ rfl D256 (by simpa using g3) g' _ _ _ h8 _ 0 _ (wrap_sum _ _ (by decide) (askM_bd _)) hm tM rfl HS w h
  · have hz : decide (128 ≤ m 8352) = false := by simpa using a
    have ht : tickM m = m := by unfold tickM; rw [if_neg a]
    have hr : tickR m = 0 := by unfold tickR; rw [if_neg a]
    rw [ht, hr]
    exact tick_off b m _ rfl (B 8352 (by decide) (by decide)).1 (B 8352 (by decide) (by decide)).2 hz w h
end Go.Proofs.Ytpfbodmadmneiaa
