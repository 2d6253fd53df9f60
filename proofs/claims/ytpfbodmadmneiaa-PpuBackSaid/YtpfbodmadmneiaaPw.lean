/-
  The signal, the next line: for every unit; no condition but that each number fits.
-/
import Derived.Test.YtpfbodmadmneiaaPf
import Derived.Deep.Cut
import Derived.BigQuiet
import Derived.WalkSmall
namespace Go.Proofs.Ytpfbodmadmneiaa
open Go.ChangeShapes Go.WideShapes Go.ChangeAt Go.RowKit
set_option linter.unusedVariables false
set_option linter.unusedSimpArgs false
set_option maxRecDepth 100000
set_option maxHeartbeats 2000000 in
theorem sig_off (b : Nat) (m : M) (c : Int) (hc : m 8352 = c) (c0 : 0 ≤ c) (c1 : c < 256)  (hz : decide (128 ≤ c) = false) (w : World) (h : Has w b (encU m)) : Calls Try.prog 56 #[.pointer (some ⟨b, 0, none⟩)] w fun q_ w' => q_ = .returned (.bool false) ∧ Below w.heap.size w w' := by
  suffices hall : ∀ w0 : World, Below w0.heap.size w0 w → Calls Try.prog 56 #[.pointer (some ⟨b, 0, none⟩)] w fun q_ w' => q_ = .returned (.bool false) ∧ Below w0.heap.size w0 w' from hall w (Below.refl _ w)
  intro w0 hK
  have P0 := Lib.hid h
  have K0 := Lib.hid hK
  clear h hK
  have Hc := Lib.hid hc
  clear hc
  have HZ := Lib.hid hz
  clear hz
  have hnot : ∀ (x : Bool) (w : World), (Op.unary .not (.bool x)).run Try.prog w = .ok (.bool (!x)) w := fun _ _ => rfl
  go_enter Try.func56, Try.ntmps56
  go_wp2_with (fail)
  with_reducible refine (on_c b m c Hc.out c0 c1 false HZ.out _ P0.out).mono ?_
  rintro q_ w' ⟨rfl, rfl⟩
  go_wp2
  all_goals first | exact bodyPost_ret (v := .bool false) (by simp [results, Try.results56, go_sem]) rfl ⟨rfl, K0.out⟩ | exact bodyPost_end (v := .bool false) (by simp [results, Try.results56, go_sem]) rfl ⟨rfl, K0.out⟩
set_option maxHeartbeats 2000000 in
theorem sig_ly (b : Nat) (m : M) (c : Int) (hc : m 8352 = c) (c0 : 0 ≤ c) (c1 : c < 256) (st : Int) (hst : m 8353 = st) (st0 : 0 ≤ st) (st1 : st < 256) (L : Int) (hL : m 8356 = L) (L0 : 0 ≤ L) (L1 : L < 256) (ly : Int) (hly : m 8357 = ly) (ly0 : 0 ≤ ly) (ly1 : ly < 256) (d : Int) (hd : m 8363 = d) (d0 : 0 ≤ d) (d1 : d < 256)  (v : Int) (v0 : 0 ≤ v) (v1 : v ≤ 3) (hz : decide (128 ≤ c) = true) (hv : modeV c L d = v) (h6 : decide (bit st 6 = 1) = true) (he : decide (L = ly) = true)  (w : World) (h : Has w b (encU m)) : Calls Try.prog 56 #[.pointer (some ⟨b, 0, none⟩)] w fun q_ w' => q_ = .returned (.bool true) ∧ Below w.heap.size w w' := by
  suffices hall : ∀ w0 : World, Below w0.heap.size w0 w → Calls Try.prog 56 #[.pointer (some ⟨b, 0, none⟩)] w fun q_ w' => q_ = .returned (.bool true) ∧ Below w0.heap.size w0 w' from hall w (Below.refl _ w)
  intro w0 hK
  have P0 := Lib.hid h
  have K0 := Lib.hid hK
  clear h hK
  have Hc := Lib.hid hc
  clear hc
  have Hst := Lib.hid hst
  clear hst
  have HL := Lib.hid hL
  clear hL
  have Hly := Lib.hid hly
  clear hly
  have Hd := Lib.hid hd
  clear hd
  have HZ := Lib.hid hz
  clear hz
  have HV := Lib.hid hv
  clear hv
  have q6 := (g64 st st0 st1).trans h6
  clear h6
  have HE := Lib.hid he
  clear he
  have hnot : ∀ (x : Bool) (w : World), (Op.unary .not (.bool x)).run Try.prog w = .ok (.bool (!x)) w := fun _ _ => rfl
  go_enter Try.func56, Try.ntmps56
  go_wp2_with (fail)
  with_reducible refine (on_c b m c Hc.out c0 c1 true HZ.out _ P0.out).mono ?_
  rintro q_ w' ⟨rfl, rfl⟩
  obtain ⟨hc, hf⟩ := P0.out.out
  have e_st : (encU (m))[8353]? = some (.int .u8 st) := (encU_u _ 8353 (by decide) (by decide) (by decide)).trans (congrArg (fun x => some (Value.int .u8 x)) (Hst.out))
  go_upto_region 3 with (fail)
  go_quiet ((go_at_call 25; with_reducible exact Calls.quiet_of_same (mode_c b m c Hc.out c0 c1 L HL.out L0 L1 d Hd.out d0 d1 v HV.out _ (P0.out.drewN _))))
  clear hc hf e_st
  have P1 := Lib.hid (P0.out.drewN nq)
  have K1 := Lib.hid (below_drewN K0.out nq)
  generalize World.drewN _ nq = u1 at P1 K1 ⊢
  go_wp2_with (fail)
  with_reducible refine (eq_c b m L HL.out L0 L1 ly Hly.out ly0 ly1 true HE.out _ P1.out).mono ?_
  rintro q_ u2 ⟨rfl, hb⟩
  have P2 := Lib.hid (P1.out.below hb)
  have K2 := Lib.hid (via K1.out hb)
  clear hb P1 K1
  go_wp2
  all_goals first | exact bodyPost_ret (v := .bool true) (by simp [results, Try.results56, go_sem]) rfl ⟨rfl, K2.out⟩ | exact bodyPost_end (v := .bool true) (by simp [results, Try.results56, go_sem]) rfl ⟨rfl, K2.out⟩
set_option maxHeartbeats 2000000 in
theorem sig_0 (b : Nat) (m : M) (c : Int) (hc : m 8352 = c) (c0 : 0 ≤ c) (c1 : c < 256) (st : Int) (hst : m 8353 = st) (st0 : 0 ≤ st) (st1 : st < 256) (L : Int) (hL : m 8356 = L) (L0 : 0 ≤ L) (L1 : L < 256) (ly : Int) (hly : m 8357 = ly) (ly0 : 0 ≤ ly) (ly1 : ly < 256) (d : Int) (hd : m 8363 = d) (d0 : 0 ≤ d) (d1 : d < 256)  (z : Bool) (hb : decide (bit st 3 = 1) = z) (hz : decide (128 ≤ c) = true) (hv : modeV c L d = 0) (h6 : decide (bit st 6 = 1) = false)  (w : World) (h : Has w b (encU m)) : Calls Try.prog 56 #[.pointer (some ⟨b, 0, none⟩)] w fun q_ w' => q_ = .returned (.bool z) ∧ Below w.heap.size w w' := by
  suffices hall : ∀ w0 : World, Below w0.heap.size w0 w → Calls Try.prog 56 #[.pointer (some ⟨b, 0, none⟩)] w fun q_ w' => q_ = .returned (.bool z) ∧ Below w0.heap.size w0 w' from hall w (Below.refl _ w)
  intro w0 hK
  have P0 := Lib.hid h
  have K0 := Lib.hid hK
  clear h hK
  have Hc := Lib.hid hc
  clear hc
  have Hst := Lib.hid hst
  clear hst
  have HL := Lib.hid hL
  clear hL
  have Hly := Lib.hid hly
  clear hly
  have Hd := Lib.hid hd
  clear hd
  have HZ := Lib.hid hz
  clear hz
  have HV := Lib.hid hv
  clear hv
  have q6 := (g64 st st0 st1).trans h6
  clear h6
  have qv := (g8 st st0 st1).trans hb
  clear hb
  have hnot : ∀ (x : Bool) (w : World), (Op.unary .not (.bool x)).run Try.prog w = .ok (.bool (!x)) w := fun _ _ => rfl
  go_enter Try.func56, Try.ntmps56
  go_wp2_with (fail)
  with_reducible refine (on_c b m c Hc.out c0 c1 true HZ.out _ P0.out).mono ?_
  rintro q_ w' ⟨rfl, rfl⟩
  obtain ⟨hc, hf⟩ := P0.out.out
  have e_st : (encU (m))[8353]? = some (.int .u8 st) := (encU_u _ 8353 (by decide) (by decide) (by decide)).trans (congrArg (fun x => some (Value.int .u8 x)) (Hst.out))
  go_upto_region 3 with (fail)
  go_quiet ((go_at_call 25; with_reducible exact Calls.quiet_of_same (mode_c b m c Hc.out c0 c1 L HL.out L0 L1 d Hd.out d0 d1 0 HV.out _ (P0.out.drewN _))))
  clear hc hf e_st
  have P1 := Lib.hid (P0.out.drewN nq)
  have K1 := Lib.hid (below_drewN K0.out nq)
  generalize World.drewN _ nq = u1 at P1 K1 ⊢
  go_wp2
  all_goals first | exact bodyPost_ret (v := .bool z) (by simp [results, Try.results56, go_sem]) rfl ⟨rfl, K1.out⟩ | exact bodyPost_end (v := .bool z) (by simp [results, Try.results56, go_sem]) rfl ⟨rfl, K1.out⟩
set_option maxHeartbeats 2000000 in
theorem sig_0e (b : Nat) (m : M) (c : Int) (hc : m 8352 = c) (c0 : 0 ≤ c) (c1 : c < 256) (st : Int) (hst : m 8353 = st) (st0 : 0 ≤ st) (st1 : st < 256) (L : Int) (hL : m 8356 = L) (L0 : 0 ≤ L) (L1 : L < 256) (ly : Int) (hly : m 8357 = ly) (ly0 : 0 ≤ ly) (ly1 : ly < 256) (d : Int) (hd : m 8363 = d) (d0 : 0 ≤ d) (d1 : d < 256)  (z : Bool) (hb : decide (bit st 3 = 1) = z) (hz : decide (128 ≤ c) = true) (hv : modeV c L d = 0) (h6 : decide (bit st 6 = 1) = true) (he : decide (L = ly) = false)  (w : World) (h : Has w b (encU m)) : Calls Try.prog 56 #[.pointer (some ⟨b, 0, none⟩)] w fun q_ w' => q_ = .returned (.bool z) ∧ Below w.heap.size w w' := by
  suffices hall : ∀ w0 : World, Below w0.heap.size w0 w → Calls Try.prog 56 #[.pointer (some ⟨b, 0, none⟩)] w fun q_ w' => q_ = .returned (.bool z) ∧ Below w0.heap.size w0 w' from hall w (Below.refl _ w)
  intro w0 hK
  have P0 := Lib.hid h
  have K0 := Lib.hid hK
  clear h hK
  have Hc := Lib.hid hc
  clear hc
  have Hst := Lib.hid hst
  clear hst
  have HL := Lib.hid hL
  clear hL
  have Hly := Lib.hid hly
  clear hly
  have Hd := Lib.hid hd
  clear hd
  have HZ := Lib.hid hz
  clear hz
  have HV := Lib.hid hv
  clear hv
  have q6 := (g64 st st0 st1).trans h6
  clear h6
  have HE := Lib.hid he
  clear he
  have qv := (g8 st st0 st1).trans hb
  clear hb
  have hnot : ∀ (x : Bool) (w : World), (Op.unary .not (.bool x)).run Try.prog w = .ok (.bool (!x)) w := fun _ _ => rfl
  go_enter Try.func56, Try.ntmps56
  go_wp2_with (fail)
  with_reducible refine (on_c b m c Hc.out c0 c1 true HZ.out _ P0.out).mono ?_
  rintro q_ w' ⟨rfl, rfl⟩
  obtain ⟨hc, hf⟩ := P0.out.out
  have e_st : (encU (m))[8353]? = some (.int .u8 st) := (encU_u _ 8353 (by decide) (by decide) (by decide)).trans (congrArg (fun x => some (Value.int .u8 x)) (Hst.out))
  go_upto_region 3 with (fail)
  go_quiet ((go_at_call 25; with_reducible exact Calls.quiet_of_same (mode_c b m c Hc.out c0 c1 L HL.out L0 L1 d Hd.out d0 d1 0 HV.out _ (P0.out.drewN _))))
  clear hc hf e_st
  have P1 := Lib.hid (P0.out.drewN nq)
  have K1 := Lib.hid (below_drewN K0.out nq)
  generalize World.drewN _ nq = u1 at P1 K1 ⊢
  go_wp2_with (fail)
  with_reducible refine (eq_c b m L HL.out L0 L1 ly Hly.out ly0 ly1 false HE.out _ P1.out).mono ?_
  rintro q_ u2 ⟨rfl, hb⟩
  have P2 := Lib.hid (P1.out.below hb)
  have K2 := Lib.hid (via K1.out hb)
  clear hb P1 K1
  go_wp2
  all_goals first | exact bodyPost_ret (v := .bool z) (by simp [results, Try.results56, go_sem]) rfl ⟨rfl, K2.out⟩ | exact bodyPost_end (v := .bool z) (by simp [results, Try.results56, go_sem]) rfl ⟨rfl, K2.out⟩
set_option maxHeartbeats 2000000 in
theorem sig_1 (b : Nat) (m : M) (c : Int) (hc : m 8352 = c) (c0 : 0 ≤ c) (c1 : c < 256) (st : Int) (hst : m 8353 = st) (st0 : 0 ≤ st) (st1 : st < 256) (L : Int) (hL : m 8356 = L) (L0 : 0 ≤ L) (L1 : L < 256) (ly : Int) (hly : m 8357 = ly) (ly0 : 0 ≤ ly) (ly1 : ly < 256) (d : Int) (hd : m 8363 = d) (d0 : 0 ≤ d) (d1 : d < 256)  (z : Bool) (hb : decide (bit st 4 = 1) = z) (hz : decide (128 ≤ c) = true) (hv : modeV c L d = 1) (h6 : decide (bit st 6 = 1) = false)  (w : World) (h : Has w b (encU m)) : Calls Try.prog 56 #[.pointer (some ⟨b, 0, none⟩)] w fun q_ w' => q_ = .returned (.bool z) ∧ Below w.heap.size w w' := by
  suffices hall : ∀ w0 : World, Below w0.heap.size w0 w → Calls Try.prog 56 #[.pointer (some ⟨b, 0, none⟩)] w fun q_ w' => q_ = .returned (.bool z) ∧ Below w0.heap.size w0 w' from hall w (Below.refl _ w)
  intro w0 hK
  have P0 := Lib.hid h
  have K0 := Lib.hid hK
  clear h hK
  have Hc := Lib.hid hc
  clear hc
  have Hst := Lib.hid hst
  clear hst
  have HL := Lib.hid hL
  clear hL
  have Hly := Lib.hid hly
  clear hly
  have Hd := Lib.hid hd
  clear hd
  have HZ := Lib.hid hz
  clear hz
  have HV := Lib.hid hv
  clear hv
  have q6 := (g64 st st0 st1).trans h6
  clear h6
  have qv := (g16 st st0 st1).trans hb
  clear hb
  have hnot : ∀ (x : Bool) (w : World), (Op.unary .not (.bool x)).run Try.prog w = .ok (.bool (!x)) w := fun _ _ => rfl
  go_enter Try.func56, Try.ntmps56
  go_wp2_with (fail)
  with_reducible refine (on_c b m c Hc.out c0 c1 true HZ.out _ P0.out).mono ?_
  rintro q_ w' ⟨rfl, rfl⟩
  obtain ⟨hc, hf⟩ := P0.out.out
  have e_st : (encU (m))[8353]? = some (.int .u8 st) := (encU_u _ 8353 (by decide) (by decide) (by decide)).trans (congrArg (fun x => some (Value.int .u8 x)) (Hst.out))
  go_upto_region 3 with (fail)
  go_quiet ((go_at_call 25; with_reducible exact Calls.quiet_of_same (mode_c b m c Hc.out c0 c1 L HL.out L0 L1 d Hd.out d0 d1 1 HV.out _ (P0.out.drewN _))))
  clear hc hf e_st
  have P1 := Lib.hid (P0.out.drewN nq)
  have K1 := Lib.hid (below_drewN K0.out nq)
  generalize World.drewN _ nq = u1 at P1 K1 ⊢
  go_wp2
  all_goals first | exact bodyPost_ret (v := .bool z) (by simp [results, Try.results56, go_sem]) rfl ⟨rfl, K1.out⟩ | exact bodyPost_end (v := .bool z) (by simp [results, Try.results56, go_sem]) rfl ⟨rfl, K1.out⟩
set_option maxHeartbeats 2000000 in
theorem sig_1e (b : Nat) (m : M) (c : Int) (hc : m 8352 = c) (c0 : 0 ≤ c) (c1 : c < 256) (st : Int) (hst : m 8353 = st) (st0 : 0 ≤ st) (st1 : st < 256) (L : Int) (hL : m 8356 = L) (L0 : 0 ≤ L) (L1 : L < 256) (ly : Int) (hly : m 8357 = ly) (ly0 : 0 ≤ ly) (ly1 : ly < 256) (d : Int) (hd : m 8363 = d) (d0 : 0 ≤ d) (d1 : d < 256)  (z : Bool) (hb : decide (bit st 4 = 1) = z) (hz : decide (128 ≤ c) = true) (hv : modeV c L d = 1) (h6 : decide (bit st 6 = 1) = true) (he : decide (L = ly) = false)  (w : World) (h : Has w b (encU m)) : Calls Try.prog 56 #[.pointer (some ⟨b, 0, none⟩)] w fun q_ w' => q_ = .returned (.bool z) ∧ Below w.heap.size w w' := by
  suffices hall : ∀ w0 : World, Below w0.heap.size w0 w → Calls Try.prog 56 #[.pointer (some ⟨b, 0, none⟩)] w fun q_ w' => q_ = .returned (.bool z) ∧ Below w0.heap.size w0 w' from hall w (Below.refl _ w)
  intro w0 hK
  have P0 := Lib.hid h
  have K0 := Lib.hid hK
  clear h hK
  have Hc := Lib.hid hc
  clear hc
  have Hst := Lib.hid hst
  clear hst
  have HL := Lib.hid hL
  clear hL
  have Hly := Lib.hid hly
  clear hly
  have Hd := Lib.hid hd
  clear hd
  have HZ := Lib.hid hz
  clear hz
  have HV := Lib.hid hv
  clear hv
  have q6 := (g64 st st0 st1).trans h6
  clear h6
  have HE := Lib.hid he
  clear he
  have qv := (g16 st st0 st1).trans hb
  clear hb
  have hnot : ∀ (x : Bool) (w : World), (Op.unary .not (.bool x)).run Try.prog w = .ok (.bool (!x)) w := fun _ _ => rfl
  go_enter Try.func56, Try.ntmps56
  go_wp2_with (fail)
  with_reducible refine (on_c b m c Hc.out c0 c1 true HZ.out _ P0.out).mono ?_
  rintro q_ w' ⟨rfl, rfl⟩
  obtain ⟨hc, hf⟩ := P0.out.out
  have e_st : (encU (m))[8353]? = some (.int .u8 st) := (encU_u _ 8353 (by decide) (by decide) (by decide)).trans (congrArg (fun x => some (Value.int .u8 x)) (Hst.out))
  go_upto_region 3 with (fail)
  go_quiet ((go_at_call 25; with_reducible exact Calls.quiet_of_same (mode_c b m c Hc.out c0 c1 L HL.out L0 L1 d Hd.out d0 d1 1 HV.out _ (P0.out.drewN _))))
  clear hc hf e_st
  have P1 := Lib.hid (P0.out.drewN nq)
  have K1 := Lib.hid (below_drewN K0.out nq)
  generalize World.drewN _ nq = u1 at P1 K1 ⊢
  go_wp2_with (fail)
  with_reducible refine (eq_c b m L HL.out L0 L1 ly Hly.out ly0 ly1 false HE.out _ P1.out).mono ?_
  rintro q_ u2 ⟨rfl, hb⟩
  have P2 := Lib.hid (P1.out.below hb)
  have K2 := Lib.hid (via K1.out hb)
  clear hb P1 K1
  go_wp2
  all_goals first | exact bodyPost_ret (v := .bool z) (by simp [results, Try.results56, go_sem]) rfl ⟨rfl, K2.out⟩ | exact bodyPost_end (v := .bool z) (by simp [results, Try.results56, go_sem]) rfl ⟨rfl, K2.out⟩
set_option maxHeartbeats 2000000 in
theorem sig_2 (b : Nat) (m : M) (c : Int) (hc : m 8352 = c) (c0 : 0 ≤ c) (c1 : c < 256) (st : Int) (hst : m 8353 = st) (st0 : 0 ≤ st) (st1 : st < 256) (L : Int) (hL : m 8356 = L) (L0 : 0 ≤ L) (L1 : L < 256) (ly : Int) (hly : m 8357 = ly) (ly0 : 0 ≤ ly) (ly1 : ly < 256) (d : Int) (hd : m 8363 = d) (d0 : 0 ≤ d) (d1 : d < 256)  (z : Bool) (hb : decide (bit st 5 = 1) = z) (hz : decide (128 ≤ c) = true) (hv : modeV c L d = 2) (h6 : decide (bit st 6 = 1) = false)  (w : World) (h : Has w b (encU m)) : Calls Try.prog 56 #[.pointer (some ⟨b, 0, none⟩)] w fun q_ w' => q_ = .returned (.bool z) ∧ Below w.heap.size w w' := by
  suffices hall : ∀ w0 : World, Below w0.heap.size w0 w → Calls Try.prog 56 #[.pointer (some ⟨b, 0, none⟩)] w fun q_ w' => q_ = .returned (.bool z) ∧ Below w0.heap.size w0 w' from hall w (Below.refl _ w)
  intro w0 hK
  have P0 := Lib.hid h
  have K0 := Lib.hid hK
  clear h hK
  have Hc := Lib.hid hc
  clear hc
  have Hst := Lib.hid hst
  clear hst
  have HL := Lib.hid hL
  clear hL
  have Hly := Lib.hid hly
  clear hly
  have Hd := Lib.hid hd
  clear hd
  have HZ := Lib.hid hz
  clear hz
  have HV := Lib.hid hv
  clear hv
  have q6 := (g64 st st0 st1).trans h6
  clear h6
  have qv := (g32 st st0 st1).trans hb
  clear hb
  have hnot : ∀ (x : Bool) (w : World), (Op.unary .not (.bool x)).run Try.prog w = .ok (.bool (!x)) w := fun _ _ => rfl
  go_enter Try.func56, Try.ntmps56
  go_wp2_with (fail)
  with_reducible refine (on_c b m c Hc.out c0 c1 true HZ.out _ P0.out).mono ?_
  rintro q_ w' ⟨rfl, rfl⟩
  obtain ⟨hc, hf⟩ := P0.out.out
  have e_st : (encU (m))[8353]? = some (.int .u8 st) := (encU_u _ 8353 (by decide) (by decide) (by decide)).trans (congrArg (fun x => some (Value.int .u8 x)) (Hst.out))
  go_upto_region 3 with (fail)
  go_quiet ((go_at_call 25; with_reducible exact Calls.quiet_of_same (mode_c b m c Hc.out c0 c1 L HL.out L0 L1 d Hd.out d0 d1 2 HV.out _ (P0.out.drewN _))))
  clear hc hf e_st
  have P1 := Lib.hid (P0.out.drewN nq)
  have K1 := Lib.hid (below_drewN K0.out nq)
  generalize World.drewN _ nq = u1 at P1 K1 ⊢
  go_wp2
  all_goals first | exact bodyPost_ret (v := .bool z) (by simp [results, Try.results56, go_sem]) rfl ⟨rfl, K1.out⟩ | exact bodyPost_end (v := .bool z) (by simp [results, Try.results56, go_sem]) rfl ⟨rfl, K1.out⟩
set_option maxHeartbeats 2000000 in
theorem sig_2e (b : Nat) (m : M) (c : Int) (hc : m 8352 = c) (c0 : 0 ≤ c) (c1 : c < 256) (st : Int) (hst : m 8353 = st) (st0 : 0 ≤ st) (st1 : st < 256) (L : Int) (hL : m 8356 = L) (L0 : 0 ≤ L) (L1 : L < 256) (ly : Int) (hly : m 8357 = ly) (ly0 : 0 ≤ ly) (ly1 : ly < 256) (d : Int) (hd : m 8363 = d) (d0 : 0 ≤ d) (d1 : d < 256)  (z : Bool) (hb : decide (bit st 5 = 1) = z) (hz : decide (128 ≤ c) = true) (hv : modeV c L d = 2) (h6 : decide (bit st 6 = 1) = true) (he : decide (L = ly) = false)  (w : World) (h : Has w b (encU m)) : Calls Try.prog 56 #[.pointer (some ⟨b, 0, none⟩)] w fun q_ w' => q_ = .returned (.bool z) ∧ Below w.heap.size w w' := by
  suffices hall : ∀ w0 : World, Below w0.heap.size w0 w → Calls Try.prog 56 #[.pointer (some ⟨b, 0, none⟩)] w fun q_ w' => q_ = .returned (.bool z) ∧ Below w0.heap.size w0 w' from hall w (Below.refl _ w)
  intro w0 hK
  have P0 := Lib.hid h
  have K0 := Lib.hid hK
  clear h hK
  have Hc := Lib.hid hc
  clear hc
  have Hst := Lib.hid hst
  clear hst
  have HL := Lib.hid hL
  clear hL
  have Hly := Lib.hid hly
  clear hly
  have Hd := Lib.hid hd
  clear hd
  have HZ := Lib.hid hz
  clear hz
  have HV := Lib.hid hv
  clear hv
  have q6 := (g64 st st0 st1).trans h6
  clear h6
  have HE := Lib.hid he
  clear he
  have qv := (g32 st st0 st1).trans hb
  clear hb
  have hnot : ∀ (x : Bool) (w : World), (Op.unary .not (.bool x)).run Try.prog w = .ok (.bool (!x)) w := fun _ _ => rfl
  go_enter Try.func56, Try.ntmps56
  go_wp2_with (fail)
  with_reducible refine (on_c b m c Hc.out c0 c1 true HZ.out _ P0.out).mono ?_
  rintro q_ w' ⟨rfl, rfl⟩
  obtain ⟨hc, hf⟩ := P0.out.out
  have e_st : (encU (m))[8353]? = some (.int .u8 st) := (encU_u _ 8353 (by decide) (by decide) (by decide)).trans (congrArg (fun x => some (Value.int .u8 x)) (Hst.out))
  go_upto_region 3 with (fail)
  go_quiet ((go_at_call 25; with_reducible exact Calls.quiet_of_same (mode_c b m c Hc.out c0 c1 L HL.out L0 L1 d Hd.out d0 d1 2 HV.out _ (P0.out.drewN _))))
  clear hc hf e_st
  have P1 := Lib.hid (P0.out.drewN nq)
  have K1 := Lib.hid (below_drewN K0.out nq)
  generalize World.drewN _ nq = u1 at P1 K1 ⊢
  go_wp2_with (fail)
  with_reducible refine (eq_c b m L HL.out L0 L1 ly Hly.out ly0 ly1 false HE.out _ P1.out).mono ?_
  rintro q_ u2 ⟨rfl, hb⟩
  have P2 := Lib.hid (P1.out.below hb)
  have K2 := Lib.hid (via K1.out hb)
  clear hb P1 K1
  go_wp2
  all_goals first | exact bodyPost_ret (v := .bool z) (by simp [results, Try.results56, go_sem]) rfl ⟨rfl, K2.out⟩ | exact bodyPost_end (v := .bool z) (by simp [results, Try.results56, go_sem]) rfl ⟨rfl, K2.out⟩
set_option maxHeartbeats 2000000 in
theorem sig_3 (b : Nat) (m : M) (c : Int) (hc : m 8352 = c) (c0 : 0 ≤ c) (c1 : c < 256) (st : Int) (hst : m 8353 = st) (st0 : 0 ≤ st) (st1 : st < 256) (L : Int) (hL : m 8356 = L) (L0 : 0 ≤ L) (L1 : L < 256) (ly : Int) (hly : m 8357 = ly) (ly0 : 0 ≤ ly) (ly1 : ly < 256) (d : Int) (hd : m 8363 = d) (d0 : 0 ≤ d) (d1 : d < 256)   (hz : decide (128 ≤ c) = true) (hv : modeV c L d = 3) (h6 : decide (bit st 6 = 1) = false)  (w : World) (h : Has w b (encU m)) : Calls Try.prog 56 #[.pointer (some ⟨b, 0, none⟩)] w fun q_ w' => q_ = .returned (.bool false) ∧ Below w.heap.size w w' := by
  suffices hall : ∀ w0 : World, Below w0.heap.size w0 w → Calls Try.prog 56 #[.pointer (some ⟨b, 0, none⟩)] w fun q_ w' => q_ = .returned (.bool false) ∧ Below w0.heap.size w0 w' from hall w (Below.refl _ w)
  intro w0 hK
  have P0 := Lib.hid h
  have K0 := Lib.hid hK
  clear h hK
  have Hc := Lib.hid hc
  clear hc
  have Hst := Lib.hid hst
  clear hst
  have HL := Lib.hid hL
  clear hL
  have Hly := Lib.hid hly
  clear hly
  have Hd := Lib.hid hd
  clear hd
  have HZ := Lib.hid hz
  clear hz
  have HV := Lib.hid hv
  clear hv
  have q6 := (g64 st st0 st1).trans h6
  clear h6
  have hnot : ∀ (x : Bool) (w : World), (Op.unary .not (.bool x)).run Try.prog w = .ok (.bool (!x)) w := fun _ _ => rfl
  go_enter Try.func56, Try.ntmps56
  go_wp2_with (fail)
  with_reducible refine (on_c b m c Hc.out c0 c1 true HZ.out _ P0.out).mono ?_
  rintro q_ w' ⟨rfl, rfl⟩
  obtain ⟨hc, hf⟩ := P0.out.out
  have e_st : (encU (m))[8353]? = some (.int .u8 st) := (encU_u _ 8353 (by decide) (by decide) (by decide)).trans (congrArg (fun x => some (Value.int .u8 x)) (Hst.out))
  go_upto_region 3 with (fail)
  go_quiet ((go_at_call 25; with_reducible exact Calls.quiet_of_same (mode_c b m c Hc.out c0 c1 L HL.out L0 L1 d Hd.out d0 d1 3 HV.out _ (P0.out.drewN _))))
  clear hc hf e_st
  have P1 := Lib.hid (P0.out.drewN nq)
  have K1 := Lib.hid (below_drewN K0.out nq)
  generalize World.drewN _ nq = u1 at P1 K1 ⊢
  go_wp2
  all_goals first | exact bodyPost_ret (v := .bool false) (by simp [results, Try.results56, go_sem]) rfl ⟨rfl, K1.out⟩ | exact bodyPost_end (v := .bool false) (by simp [results, Try.results56, go_sem]) rfl ⟨rfl, K1.out⟩
set_option maxHeartbeats 2000000 in
theorem sig_3e (b : Nat) (m : M) (c : Int) (hc : m 8352 = c) (c0 : 0 ≤ c) (c1 : c < 256) (st : Int) (hst : m 8353 = st) (st0 : 0 ≤ st) (st1 : st < 256) (L : Int) (hL : m 8356 = L) (L0 : 0 ≤ L) (L1 : L < 256) (ly : Int) (hly : m 8357 = ly) (ly0 : 0 ≤ ly) (ly1 : ly < 256) (d : Int) (hd : m 8363 = d) (d0 : 0 ≤ d) (d1 : d < 256)   (hz : decide (128 ≤ c) = true) (hv : modeV c L d = 3) (h6 : decide (bit st 6 = 1) = true) (he : decide (L = ly) = false)  (w : World) (h : Has w b (encU m)) : Calls Try.prog 56 #[.pointer (some ⟨b, 0, none⟩)] w fun q_ w' => q_ = .returned (.bool false) ∧ Below w.heap.size w w' := by
  suffices hall : ∀ w0 : World, Below w0.heap.size w0 w → Calls Try.prog 56 #[.pointer (some ⟨b, 0, none⟩)] w fun q_ w' => q_ = .returned (.bool false) ∧ Below w0.heap.size w0 w' from hall w (Below.refl _ w)
  intro w0 hK
  have P0 := Lib.hid h
  have K0 := Lib.hid hK
  clear h hK
  have Hc := Lib.hid hc
  clear hc
  have Hst := Lib.hid hst
  clear hst
  have HL := Lib.hid hL
  clear hL
  have Hly := Lib.hid hly
  clear hly
  have Hd := Lib.hid hd
  clear hd
  have HZ := Lib.hid hz
  clear hz
  have HV := Lib.hid hv
  clear hv
  have q6 := (g64 st st0 st1).trans h6
  clear h6
  have HE := Lib.hid he
  clear he
  have hnot : ∀ (x : Bool) (w : World), (Op.unary .not (.bool x)).run Try.prog w = .ok (.bool (!x)) w := fun _ _ => rfl
  go_enter Try.func56, Try.ntmps56
  go_wp2_with (fail)
  with_reducible refine (on_c b m c Hc.out c0 c1 true HZ.out _ P0.out).mono ?_
  rintro q_ w' ⟨rfl, rfl⟩
  obtain ⟨hc, hf⟩ := P0.out.out
  have e_st : (encU (m))[8353]? = some (.int .u8 st) := (encU_u _ 8353 (by decide) (by decide) (by decide)).trans (congrArg (fun x => some (Value.int .u8 x)) (Hst.out))
  go_upto_region 3 with (fail)
  go_quiet ((go_at_call 25; with_reducible exact Calls.quiet_of_same (mode_c b m c Hc.out c0 c1 L HL.out L0 L1 d Hd.out d0 d1 3 HV.out _ (P0.out.drewN _))))
  clear hc hf e_st
  have P1 := Lib.hid (P0.out.drewN nq)
  have K1 := Lib.hid (below_drewN K0.out nq)
  generalize World.drewN _ nq = u1 at P1 K1 ⊢
  go_wp2_with (fail)
  with_reducible refine (eq_c b m L HL.out L0 L1 ly Hly.out ly0 ly1 false HE.out _ P1.out).mono ?_
  rintro q_ u2 ⟨rfl, hb⟩
  have P2 := Lib.hid (P1.out.below hb)
  have K2 := Lib.hid (via K1.out hb)
  clear hb P1 K1
  go_wp2
  all_goals first | exact bodyPost_ret (v := .bool false) (by simp [results, Try.results56, go_sem]) rfl ⟨rfl, K2.out⟩ | exact bodyPost_end (v := .bool false) (by simp [results, Try.results56, go_sem]) rfl ⟨rfl, K2.out⟩
theorem signals_c (b : Nat) (m : M) (c : Int) (hc : m 8352 = c) (c0 : 0 ≤ c) (c1 : c < 256) (st : Int) (hst : m 8353 = st) (st0 : 0 ≤ st) (st1 : st < 256) (L : Int) (hL : m 8356 = L) (L0 : 0 ≤ L) (L1 : L < 256) (ly : Int) (hly : m 8357 = ly) (ly0 : 0 ≤ ly) (ly1 : ly < 256) (d : Int) (hd : m 8363 = d) (d0 : 0 ≤ d) (d1 : d < 256) (w : World) (h : Has w b (encU m)) : Calls Try.prog 56 #[.pointer (some ⟨b, 0, none⟩)] w fun q_ w' => q_ = .returned (.bool (sigV c st L ly d)) ∧ Below w.heap.size w w' := by
  by_cases a : 128 ≤ c
  · have hz : decide (128 ≤ c) = true := by simpa using a
    have hm : modeV c L d = 0 ∨ modeV c L d = 1 ∨ modeV c L d = 2 ∨ modeV c L d = 3 := by have := modeV_bd c L d; omega
    cases h6 : decide (bit st 6 = 1) with
    | false =>
      rcases hm with hv | hv | hv | hv
      · have e : sigV c st L ly d = decide (bit st 3 = 1) := by unfold sigV; rw [hv, hz, h6]; simp
        rw [e]; exact sig_0 b m c hc c0 c1 st hst st0 st1 L hL L0 L1 ly hly ly0 ly1 d hd d0 d1 _ rfl hz hv h6 w h
      · have e : sigV c st L ly d = decide (bit st 4 = 1) := by unfold sigV; rw [hv, hz, h6]; simp
        rw [e]; exact sig_1 b m c hc c0 c1 st hst st0 st1 L hL L0 L1 ly hly ly0 ly1 d hd d0 d1 _ rfl hz hv h6 w h
      · have e : sigV c st L ly d = decide (bit st 5 = 1) := by unfold sigV; rw [hv, hz, h6]; simp
        rw [e]; exact sig_2 b m c hc c0 c1 st hst st0 st1 L hL L0 L1 ly hly ly0 ly1 d hd d0 d1 _ rfl hz hv h6 w h
      · have e : sigV c st L ly d = false := by unfold sigV; rw [hv, hz, h6]; simp
        rw [e]; exact sig_3 b m c hc c0 c1 st hst st0 st1 L hL L0 L1 ly hly ly0 ly1 d hd d0 d1  hz hv h6 w h
    | true =>
      cases he : decide (L = ly) with
      | true =>
        have e : sigV c st L ly d = true := by unfold sigV; rw [hz, h6, he]; simp
        rw [e]; exact sig_ly b m c hc c0 c1 st hst st0 st1 L hL L0 L1 ly hly ly0 ly1 d hd d0 d1 (modeV c L d) (modeV_bd c L d).1 (modeV_bd c L d).2 hz rfl h6 he w h
      | false =>
        rcases hm with hv | hv | hv | hv
        · have e : sigV c st L ly d = decide (bit st 3 = 1) := by unfold sigV; rw [hv, hz, h6, he]; simp
          rw [e]; exact sig_0e b m c hc c0 c1 st hst st0 st1 L hL L0 L1 ly hly ly0 ly1 d hd d0 d1 _ rfl hz hv h6 he w h
        · have e : sigV c st L ly d = decide (bit st 4 = 1) := by unfold sigV; rw [hv, hz, h6, he]; simp
          rw [e]; exact sig_1e b m c hc c0 c1 st hst st0 st1 L hL L0 L1 ly hly ly0 ly1 d hd d0 d1 _ rfl hz hv h6 he w h
        · have e : sigV c st L ly d = decide (bit st 5 = 1) := by unfold sigV; rw [hv, hz, h6, he]; simp
          rw [e]; exact sig_2e b m c hc c0 c1 st hst st0 st1 L hL L0 L1 ly hly ly0 ly1 d hd d0 d1 _ rfl hz hv h6 he w h
        · have e : sigV c st L ly d = false := by unfold sigV; rw [hv, hz, h6, he]; simp
          rw [e]; exact sig_3e b m c hc c0 c1 st hst st0 st1 L hL L0 L1 ly hly ly0 ly1 d hd d0 d1  hz hv h6 he w h
  · have e : sigV c st L ly d = false := by unfold sigV; simp [a]
    rw [e]
    have hz : decide (128 ≤ c) = false := by simpa using a
    exact (sig_off b m c hc c0 c1 hz w h)
set_option maxHeartbeats 2000000 in
theorem sgn_2 (b : Nat) (m : M) (c : Int) (hc : m 8352 = c) (c0 : 0 ≤ c) (c1 : c < 256) (st : Int) (hst : m 8353 = st) (st0 : 0 ≤ st) (st1 : st < 256) (L : Int) (hL : m 8356 = L) (L0 : 0 ≤ L) (L1 : L < 256) (ly : Int) (hly : m 8357 = ly) (ly0 : 0 ≤ ly) (ly1 : ly < 256) (d : Int) (hd : m 8363 = d) (d0 : 0 ≤ d) (d1 : d < 256)  (hac : decide (m 8366 ≠ 0) = false) (hz : sigV c st L ly d = true)  (w : World) (h : Has w b (encU m)) : Calls Try.prog 41 #[.pointer (some ⟨b, 0, none⟩)] w fun q_ w' => q_ = .returned (.int .u8 2) ∧ Has w' b (encU (upd m 8366 (tf true))) ∧ Keeps b w w' := by
  suffices hall : ∀ w0 : World, Keeps b w0 w → Calls Try.prog 41 #[.pointer (some ⟨b, 0, none⟩)] w fun q_ w' => q_ = .returned (.int .u8 2) ∧ Has w' b (encU (upd m 8366 (tf true))) ∧ Keeps b w0 w' from hall w (Keeps.refl b w)
  intro w0 hK
  have P0 := Lib.hid h
  have K0 := Lib.hid hK
  clear h hK
  have Hc := Lib.hid hc
  clear hc
  have Hst := Lib.hid hst
  clear hst
  have HL := Lib.hid hL
  clear hL
  have Hly := Lib.hid hly
  clear hly
  have Hd := Lib.hid hd
  clear hd
  have HC := Lib.hid (signals_c b m c Hc.out c0 c1 st Hst.out st0 st1 L HL.out L0 L1 ly Hly.out ly0 ly1 d Hd.out d0 d1)
  rw [hz] at HC
  have Hac := Lib.hid hac
  clear hac hz
  have hnot : ∀ (x : Bool) (w : World), (Op.unary .not (.bool x)).run Try.prog w = .ok (.bool (!x)) w := fun _ _ => rfl
  go_enter Try.func41, Try.ntmps41
  obtain ⟨hc, hf⟩ := P0.out.out
  have e_ac : (encU (m))[8366]? = some (.bool false) := (encU_s _).trans (congrArg (fun x => some (Value.bool x)) (Hac.out))
  go_upto_region 2 with (fail)
  clear hc hf e_ac
  go_wp2_with (fail)
  with_reducible refine (HC.out _ P0.out).mono ?_
  rintro q_ u1 ⟨rfl, hb⟩
  have P1 := Lib.hid (P0.out.below hb)
  have K1 := Lib.hid (K0.out.trans (Keeps.of_below hb))
  clear hb P0 K0
  have hc := trivial
  have hf := trivial
  go_wp2_with (refine store_s P1.out rfl _ _ rfl rfl _ rfl ?_)
  intro u2 hP hk
  clear hc hf
  have P2 := Lib.hid hP
  have K2 := Lib.hid (K1.out.trans hk)
  clear hP hk P1 K1
  try simp only [Act.put]
  obtain ⟨hc, hf⟩ := P2.out.out
  have e_ac : (encU (upd m 8366 (tf true)))[8366]? = some (.bool true) := (encU_s _).trans (congrArg (fun x => some (Value.bool x)) (by rw [upd_same]; exact tf_dec _))
  go_wp2
  all_goals first | exact bodyPost_ret (v := .int .u8 2) (by simp [results, Try.results41, go_sem]) rfl ⟨rfl, P2.out, K2.out⟩ | exact bodyPost_end (v := .int .u8 2) (by simp [results, Try.results41, go_sem]) rfl ⟨rfl, P2.out, K2.out⟩
set_option maxHeartbeats 2000000 in
theorem sgn_1 (b : Nat) (m : M) (c : Int) (hc : m 8352 = c) (c0 : 0 ≤ c) (c1 : c < 256) (st : Int) (hst : m 8353 = st) (st0 : 0 ≤ st) (st1 : st < 256) (L : Int) (hL : m 8356 = L) (L0 : 0 ≤ L) (L1 : L < 256) (ly : Int) (hly : m 8357 = ly) (ly0 : 0 ≤ ly) (ly1 : ly < 256) (d : Int) (hd : m 8363 = d) (d0 : 0 ≤ d) (d1 : d < 256)  (hac : decide (m 8366 ≠ 0) = true) (hz : sigV c st L ly d = true)  (w : World) (h : Has w b (encU m)) : Calls Try.prog 41 #[.pointer (some ⟨b, 0, none⟩)] w fun q_ w' => q_ = .returned (.int .u8 0) ∧ Has w' b (encU (upd m 8366 (tf true))) ∧ Keeps b w w' := by
  suffices hall : ∀ w0 : World, Keeps b w0 w → Calls Try.prog 41 #[.pointer (some ⟨b, 0, none⟩)] w fun q_ w' => q_ = .returned (.int .u8 0) ∧ Has w' b (encU (upd m 8366 (tf true))) ∧ Keeps b w0 w' from hall w (Keeps.refl b w)
  intro w0 hK
  have P0 := Lib.hid h
  have K0 := Lib.hid hK
  clear h hK
  have Hc := Lib.hid hc
  clear hc
  have Hst := Lib.hid hst
  clear hst
  have HL := Lib.hid hL
  clear hL
  have Hly := Lib.hid hly
  clear hly
  have Hd := Lib.hid hd
  clear hd
  have HC := Lib.hid (signals_c b m c Hc.out c0 c1 st Hst.out st0 st1 L HL.out L0 L1 ly Hly.out ly0 ly1 d Hd.out d0 d1)
  rw [hz] at HC
  have Hac := Lib.hid hac
  clear hac hz
  have hnot : ∀ (x : Bool) (w : World), (Op.unary .not (.bool x)).run Try.prog w = .ok (.bool (!x)) w := fun _ _ => rfl
  go_enter Try.func41, Try.ntmps41
  obtain ⟨hc, hf⟩ := P0.out.out
  have e_ac : (encU (m))[8366]? = some (.bool true) := (encU_s _).trans (congrArg (fun x => some (Value.bool x)) (Hac.out))
  go_upto_region 2 with (fail)
  clear hc hf e_ac
  go_wp2_with (fail)
  with_reducible refine (HC.out _ P0.out).mono ?_
  rintro q_ u1 ⟨rfl, hb⟩
  have P1 := Lib.hid (P0.out.below hb)
  have K1 := Lib.hid (K0.out.trans (Keeps.of_below hb))
  clear hb P0 K0
  have hc := trivial
  have hf := trivial
  go_wp2_with (refine store_s P1.out rfl _ _ rfl rfl _ rfl ?_)
  intro u2 hP hk
  clear hc hf
  have P2 := Lib.hid hP
  have K2 := Lib.hid (K1.out.trans hk)
  clear hP hk P1 K1
  try simp only [Act.put]
  obtain ⟨hc, hf⟩ := P2.out.out
  have e_ac : (encU (upd m 8366 (tf true)))[8366]? = some (.bool true) := (encU_s _).trans (congrArg (fun x => some (Value.bool x)) (by rw [upd_same]; exact tf_dec _))
  go_wp2
  all_goals first | exact bodyPost_ret (v := .int .u8 0) (by simp [results, Try.results41, go_sem]) rfl ⟨rfl, P2.out, K2.out⟩ | exact bodyPost_end (v := .int .u8 0) (by simp [results, Try.results41, go_sem]) rfl ⟨rfl, P2.out, K2.out⟩
set_option maxHeartbeats 2000000 in
theorem sgn_0 (b : Nat) (m : M) (c : Int) (hc : m 8352 = c) (c0 : 0 ≤ c) (c1 : c < 256) (st : Int) (hst : m 8353 = st) (st0 : 0 ≤ st) (st1 : st < 256) (L : Int) (hL : m 8356 = L) (L0 : 0 ≤ L) (L1 : L < 256) (ly : Int) (hly : m 8357 = ly) (ly0 : 0 ≤ ly) (ly1 : ly < 256) (d : Int) (hd : m 8363 = d) (d0 : 0 ≤ d) (d1 : d < 256)  (ac : Bool) (hac : decide (m 8366 ≠ 0) = ac) (hz : sigV c st L ly d = false)  (w : World) (h : Has w b (encU m)) : Calls Try.prog 41 #[.pointer (some ⟨b, 0, none⟩)] w fun q_ w' => q_ = .returned (.int .u8 0) ∧ Has w' b (encU (upd m 8366 (tf false))) ∧ Keeps b w w' := by
  suffices hall : ∀ w0 : World, Keeps b w0 w → Calls Try.prog 41 #[.pointer (some ⟨b, 0, none⟩)] w fun q_ w' => q_ = .returned (.int .u8 0) ∧ Has w' b (encU (upd m 8366 (tf false))) ∧ Keeps b w0 w' from hall w (Keeps.refl b w)
  intro w0 hK
  have P0 := Lib.hid h
  have K0 := Lib.hid hK
  clear h hK
  have Hc := Lib.hid hc
  clear hc
  have Hst := Lib.hid hst
  clear hst
  have HL := Lib.hid hL
  clear hL
  have Hly := Lib.hid hly
  clear hly
  have Hd := Lib.hid hd
  clear hd
  have HC := Lib.hid (signals_c b m c Hc.out c0 c1 st Hst.out st0 st1 L HL.out L0 L1 ly Hly.out ly0 ly1 d Hd.out d0 d1)
  rw [hz] at HC
  have Hac := Lib.hid hac
  clear hac hz
  have hnot : ∀ (x : Bool) (w : World), (Op.unary .not (.bool x)).run Try.prog w = .ok (.bool (!x)) w := fun _ _ => rfl
  go_enter Try.func41, Try.ntmps41
  obtain ⟨hc, hf⟩ := P0.out.out
  have e_ac : (encU (m))[8366]? = some (.bool ac) := (encU_s _).trans (congrArg (fun x => some (Value.bool x)) (Hac.out))
  go_upto_region 2 with (fail)
  clear hc hf e_ac
  go_wp2_with (fail)
  with_reducible refine (HC.out _ P0.out).mono ?_
  rintro q_ u1 ⟨rfl, hb⟩
  have P1 := Lib.hid (P0.out.below hb)
  have K1 := Lib.hid (K0.out.trans (Keeps.of_below hb))
  clear hb P0 K0
  have hc := trivial
  have hf := trivial
  go_wp2_with (refine store_s P1.out rfl _ _ rfl rfl _ rfl ?_)
  intro u2 hP hk
  clear hc hf
  have P2 := Lib.hid hP
  have K2 := Lib.hid (K1.out.trans hk)
  clear hP hk P1 K1
  try simp only [Act.put]
  obtain ⟨hc, hf⟩ := P2.out.out
  have e_ac : (encU (upd m 8366 (tf false)))[8366]? = some (.bool false) := (encU_s _).trans (congrArg (fun x => some (Value.bool x)) (by rw [upd_same]; exact tf_dec _))
  go_wp2
  all_goals first | exact bodyPost_ret (v := .int .u8 0) (by simp [results, Try.results41, go_sem]) rfl ⟨rfl, P2.out, K2.out⟩ | exact bodyPost_end (v := .int .u8 0) (by simp [results, Try.results41, go_sem]) rfl ⟨rfl, P2.out, K2.out⟩
/-- The signal is reckoned anew. -/
theorem signal_c (b : Nat) (m : M) (ok : Ok m) (w : World) (h : Has w b (encU m)) : Calls Try.prog 41 #[.pointer (some ⟨b, 0, none⟩)] w fun q_ w' => q_ = .returned (.int .u8 (askM m)) ∧ Has w' b (encU (sgM m)) ∧ Keeps b w w' := by
  have B := ok.byte
  have b0 := B 8352 (by decide) (by decide)
  have b1 := B 8353 (by decide) (by decide)
  have b2 := B 8356 (by decide) (by decide)
  have b3 := B 8357 (by decide) (by decide)
  have b4 := B 8363 (by decide) (by decide)
  have hs : sgM m = upd m 8366 (tf (sigM m)) := rfl
  cases hz : sigM m with
  | false =>
    have e : askM m = 0 := by unfold askM; rw [if_neg (by rw [hz]; simp)]
    rw [e, hs, hz]
    exact sgn_0 b m _ rfl b0.1 b0.2 _ rfl b1.1 b1.2 _ rfl b2.1 b2.2 _ rfl b3.1 b3.2 _ rfl b4.1 b4.2 _ rfl hz w h
  | true =>
    by_cases ha : m 8366 = 0
    · have e : askM m = 2 := by unfold askM; rw [if_pos ⟨hz, ha⟩]
      rw [e, hs, hz]
      exact sgn_2 b m _ rfl b0.1 b0.2 _ rfl b1.1 b1.2 _ rfl b2.1 b2.2 _ rfl b3.1 b3.2 _ rfl b4.1 b4.2 (by simpa using ha) hz w h
    · have e : askM m = 0 := by unfold askM; rw [if_neg (fun q => ha q.2)]
      rw [e, hs, hz]
      exact sgn_1 b m _ rfl b0.1 b0.2 _ rfl b1.1 b1.2 _ rfl b2.1 b2.2 _ rfl b3.1 b3.2 _ rfl b4.1 b4.2 (by simpa using ha) hz w h
end Go.Proofs.Ytpfbodmadmneiaa
