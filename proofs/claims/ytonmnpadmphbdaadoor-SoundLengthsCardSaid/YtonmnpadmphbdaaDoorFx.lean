/-
  The functions perform and follow: for every board; no condition but that each number fits.
-/
import Derived.Test.YtonmnpadmphbdaaDoorCmb
import Derived.Deep.Cut
import Derived.BigQuiet
import Derived.WalkSmall
namespace Go.Proofs.YtonmnpadmphbdaaDoor
open Go.ChangeShapes Go.WideShapes Go.ChangeAt Go.RowKit
set_option linter.unusedVariables false
set_option linter.unusedSimpArgs false
set_option maxRecDepth 100000
set_option maxHeartbeats 2000000 in
theorem perf_00 (b : Nat) (m : M) (k : Int) (hk : m 50 = k) (h0 : k = 0) (m1 : M) (H0 : ∀ W, Has W b (enc (m)) → Calls Tryd.prog 24 #[.pointer (some ⟨b, 0, none⟩)] W fun q_ w' => q_ = .returned (.tuple #[]) ∧ Has w' b (enc (m1)) ∧ Keeps b W w') (w : World) (h : Has w b (enc m)) : Calls Tryd.prog 18 #[.pointer (some ⟨b, 0, none⟩)] w fun q_ w' => q_ = .returned (.tuple #[]) ∧ Has w' b (enc (m1)) ∧ Keeps b w w' := by
  suffices hall : ∀ w0 : World, Keeps b w0 w → Calls Tryd.prog 18 #[.pointer (some ⟨b, 0, none⟩)] w fun q_ w' => q_ = .returned (.tuple #[]) ∧ Has w' b (enc (m1)) ∧ Keeps b w0 w' from hall w (Keeps.refl b w)
  intro w0 hK
  have P0 := Lib.hid h
  have K0 := Lib.hid hK
  clear h hK
  have HK := Lib.hid hk
  clear hk
  have S0 := Lib.hid H0
  clear H0
  subst h0
  go_enter Tryd.func18, Tryd.ntmps18
  obtain ⟨hc, hf⟩ := P0.out.out
  have e50 : (enc m)[50]? = some (.int .i64 0) := by rw [enc_i _ _ rfl (by omega) (by omega), HK.out]
  go_wp2_with fail
  clear hc hf e50
  with_reducible refine (S0.out _ P0.out).mono ?_
  rintro q_ u1 ⟨rfl, hP, hk⟩
  have P1 := Lib.hid hP
  have K1 := Lib.hid (K0.out.trans hk)
  clear hP hk P0 K0
  go_wp2
  all_goals first | exact bodyPost_ret (v := .tuple #[]) (by simp [results, Tryd.results18, go_sem]) rfl ⟨rfl, P1.out, K1.out⟩ | exact bodyPost_end (v := .tuple #[]) (by simp [results, Tryd.results18, go_sem]) rfl ⟨rfl, P1.out, K1.out⟩
set_option maxHeartbeats 2000000 in
theorem perf_04 (b : Nat) (m : M) (k : Int) (hk : m 50 = k) (h0 : k = 4) (m1 : M) (H0 : ∀ W, Has W b (enc (m)) → Calls Tryd.prog 24 #[.pointer (some ⟨b, 0, none⟩)] W fun q_ w' => q_ = .returned (.tuple #[]) ∧ Has w' b (enc (m1)) ∧ Keeps b W w') (w : World) (h : Has w b (enc m)) : Calls Tryd.prog 18 #[.pointer (some ⟨b, 0, none⟩)] w fun q_ w' => q_ = .returned (.tuple #[]) ∧ Has w' b (enc (m1)) ∧ Keeps b w w' := by
  suffices hall : ∀ w0 : World, Keeps b w0 w → Calls Tryd.prog 18 #[.pointer (some ⟨b, 0, none⟩)] w fun q_ w' => q_ = .returned (.tuple #[]) ∧ Has w' b (enc (m1)) ∧ Keeps b w0 w' from hall w (Keeps.refl b w)
  intro w0 hK
  have P0 := Lib.hid h
  have K0 := Lib.hid hK
  clear h hK
  have HK := Lib.hid hk
  clear hk
  have S0 := Lib.hid H0
  clear H0
  subst h0
  go_enter Tryd.func18, Tryd.ntmps18
  obtain ⟨hc, hf⟩ := P0.out.out
  have e50 : (enc m)[50]? = some (.int .i64 4) := by rw [enc_i _ _ rfl (by omega) (by omega), HK.out]
  go_wp2_with fail
  clear hc hf e50
  with_reducible refine (S0.out _ P0.out).mono ?_
  rintro q_ u1 ⟨rfl, hP, hk⟩
  have P1 := Lib.hid hP
  have K1 := Lib.hid (K0.out.trans hk)
  clear hP hk P0 K0
  go_wp2
  all_goals first | exact bodyPost_ret (v := .tuple #[]) (by simp [results, Tryd.results18, go_sem]) rfl ⟨rfl, P1.out, K1.out⟩ | exact bodyPost_end (v := .tuple #[]) (by simp [results, Tryd.results18, go_sem]) rfl ⟨rfl, P1.out, K1.out⟩
set_option maxHeartbeats 2000000 in
theorem perf_12 (b : Nat) (m : M) (k : Int) (hk : m 50 = k) (h0 : k = 2) (m1 : M) (h69 : ¬ m1 69 = 1) (H0 : ∀ W, Has W b (enc (m)) → Calls Tryd.prog 24 #[.pointer (some ⟨b, 0, none⟩)] W fun q_ w' => q_ = .returned (.tuple #[]) ∧ Has w' b (enc (m1)) ∧ Keeps b W w') (w : World) (h : Has w b (enc m)) : Calls Tryd.prog 18 #[.pointer (some ⟨b, 0, none⟩)] w fun q_ w' => q_ = .returned (.tuple #[]) ∧ Has w' b (enc (m1)) ∧ Keeps b w w' := by
  suffices hall : ∀ w0 : World, Keeps b w0 w → Calls Tryd.prog 18 #[.pointer (some ⟨b, 0, none⟩)] w fun q_ w' => q_ = .returned (.tuple #[]) ∧ Has w' b (enc (m1)) ∧ Keeps b w0 w' from hall w (Keeps.refl b w)
  intro w0 hK
  have P0 := Lib.hid h
  have K0 := Lib.hid hK
  clear h hK
  have HK := Lib.hid hk
  clear hk
  have S0 := Lib.hid H0
  clear H0
  subst h0
  have H69 := Lib.hid h69
  clear h69
  go_enter Tryd.func18, Tryd.ntmps18
  obtain ⟨hc, hf⟩ := P0.out.out
  have e50 : (enc m)[50]? = some (.int .i64 2) := by rw [enc_i _ _ rfl (by omega) (by omega), HK.out]
  go_wp2_with fail
  clear hc hf e50
  with_reducible refine (S0.out _ P0.out).mono ?_
  rintro q_ u1 ⟨rfl, hP, hk⟩
  have P1 := Lib.hid hP
  have K1 := Lib.hid (K0.out.trans hk)
  clear hP hk P0 K0
  obtain ⟨hc, hf⟩ := P1.out.out
  have e69 : (enc m1)[69]? = some (.bool false) := by rw [enc_b _ _ rfl (by omega), decide_eq_false H69.out]
  go_wp2
  all_goals first | exact bodyPost_ret (v := .tuple #[]) (by simp [results, Tryd.results18, go_sem]) rfl ⟨rfl, P1.out, K1.out⟩ | exact bodyPost_end (v := .tuple #[]) (by simp [results, Tryd.results18, go_sem]) rfl ⟨rfl, P1.out, K1.out⟩
set_option maxHeartbeats 2000000 in
theorem perf_22 (b : Nat) (m : M) (k : Int) (hk : m 50 = k) (h0 : k = 2) (m1 m9 : M) (h69 : m1 69 = 1) (H0 : ∀ W, Has W b (enc (m)) → Calls Tryd.prog 24 #[.pointer (some ⟨b, 0, none⟩)] W fun q_ w' => q_ = .returned (.tuple #[]) ∧ Has w' b (enc (m1)) ∧ Keeps b W w') (H1 : ∀ W, Has W b (enc (m1)) → Calls Tryd.prog 25 #[.pointer (some ⟨b, 0, none⟩)] W fun q_ w' => q_ = .returned (.tuple #[]) ∧ Has w' b (enc (m9)) ∧ Keeps b W w') (w : World) (h : Has w b (enc m)) : Calls Tryd.prog 18 #[.pointer (some ⟨b, 0, none⟩)] w fun q_ w' => q_ = .returned (.tuple #[]) ∧ Has w' b (enc (m9)) ∧ Keeps b w w' := by
  suffices hall : ∀ w0 : World, Keeps b w0 w → Calls Tryd.prog 18 #[.pointer (some ⟨b, 0, none⟩)] w fun q_ w' => q_ = .returned (.tuple #[]) ∧ Has w' b (enc (m9)) ∧ Keeps b w0 w' from hall w (Keeps.refl b w)
  intro w0 hK
  have P0 := Lib.hid h
  have K0 := Lib.hid hK
  clear h hK
  have HK := Lib.hid hk
  clear hk
  have S0 := Lib.hid H0
  have S1 := Lib.hid H1
  clear H0 H1
  subst h0
  have H69 := Lib.hid h69
  clear h69
  go_enter Tryd.func18, Tryd.ntmps18
  obtain ⟨hc, hf⟩ := P0.out.out
  have e50 : (enc m)[50]? = some (.int .i64 2) := by rw [enc_i _ _ rfl (by omega) (by omega), HK.out]
  go_wp2_with fail
  clear hc hf e50
  with_reducible refine (S0.out _ P0.out).mono ?_
  rintro q_ u1 ⟨rfl, hP, hk⟩
  have P1 := Lib.hid hP
  have K1 := Lib.hid (K0.out.trans hk)
  clear hP hk P0 K0
  obtain ⟨hc, hf⟩ := P1.out.out
  have e69 : (enc m1)[69]? = some (.bool true) := by rw [enc_b _ _ rfl (by omega), decide_eq_true H69.out]
  go_wp2_with fail
  clear hc hf e69
  with_reducible refine (S1.out _ P1.out).mono ?_
  rintro q_ u2 ⟨rfl, hP, hk⟩
  have P2 := Lib.hid hP
  have K2 := Lib.hid (K1.out.trans hk)
  clear hP hk P1 K1
  go_wp2
  all_goals first | exact bodyPost_ret (v := .tuple #[]) (by simp [results, Tryd.results18, go_sem]) rfl ⟨rfl, P2.out, K2.out⟩ | exact bodyPost_end (v := .tuple #[]) (by simp [results, Tryd.results18, go_sem]) rfl ⟨rfl, P2.out, K2.out⟩
set_option maxHeartbeats 2000000 in
theorem perf_16 (b : Nat) (m : M) (k : Int) (hk : m 50 = k) (h0 : k = 6) (m1 : M) (h69 : ¬ m1 69 = 1) (H0 : ∀ W, Has W b (enc (m)) → Calls Tryd.prog 24 #[.pointer (some ⟨b, 0, none⟩)] W fun q_ w' => q_ = .returned (.tuple #[]) ∧ Has w' b (enc (m1)) ∧ Keeps b W w') (w : World) (h : Has w b (enc m)) : Calls Tryd.prog 18 #[.pointer (some ⟨b, 0, none⟩)] w fun q_ w' => q_ = .returned (.tuple #[]) ∧ Has w' b (enc (m1)) ∧ Keeps b w w' := by
  suffices hall : ∀ w0 : World, Keeps b w0 w → Calls Tryd.prog 18 #[.pointer (some ⟨b, 0, none⟩)] w fun q_ w' => q_ = .returned (.tuple #[]) ∧ Has w' b (enc (m1)) ∧ Keeps b w0 w' from hall w (Keeps.refl b w)
  intro w0 hK
  have P0 := Lib.hid h
  have K0 := Lib.hid hK
  clear h hK
  have HK := Lib.hid hk
  clear hk
  have S0 := Lib.hid H0
  clear H0
  subst h0
  have H69 := Lib.hid h69
  clear h69
  go_enter Tryd.func18, Tryd.ntmps18
  obtain ⟨hc, hf⟩ := P0.out.out
  have e50 : (enc m)[50]? = some (.int .i64 6) := by rw [enc_i _ _ rfl (by omega) (by omega), HK.out]
  go_wp2_with fail
  clear hc hf e50
  with_reducible refine (S0.out _ P0.out).mono ?_
  rintro q_ u1 ⟨rfl, hP, hk⟩
  have P1 := Lib.hid hP
  have K1 := Lib.hid (K0.out.trans hk)
  clear hP hk P0 K0
  obtain ⟨hc, hf⟩ := P1.out.out
  have e69 : (enc m1)[69]? = some (.bool false) := by rw [enc_b _ _ rfl (by omega), decide_eq_false H69.out]
  go_wp2
  all_goals first | exact bodyPost_ret (v := .tuple #[]) (by simp [results, Tryd.results18, go_sem]) rfl ⟨rfl, P1.out, K1.out⟩ | exact bodyPost_end (v := .tuple #[]) (by simp [results, Tryd.results18, go_sem]) rfl ⟨rfl, P1.out, K1.out⟩
set_option maxHeartbeats 2000000 in
theorem perf_26 (b : Nat) (m : M) (k : Int) (hk : m 50 = k) (h0 : k = 6) (m1 m9 : M) (h69 : m1 69 = 1) (H0 : ∀ W, Has W b (enc (m)) → Calls Tryd.prog 24 #[.pointer (some ⟨b, 0, none⟩)] W fun q_ w' => q_ = .returned (.tuple #[]) ∧ Has w' b (enc (m1)) ∧ Keeps b W w') (H1 : ∀ W, Has W b (enc (m1)) → Calls Tryd.prog 25 #[.pointer (some ⟨b, 0, none⟩)] W fun q_ w' => q_ = .returned (.tuple #[]) ∧ Has w' b (enc (m9)) ∧ Keeps b W w') (w : World) (h : Has w b (enc m)) : Calls Tryd.prog 18 #[.pointer (some ⟨b, 0, none⟩)] w fun q_ w' => q_ = .returned (.tuple #[]) ∧ Has w' b (enc (m9)) ∧ Keeps b w w' := by
  suffices hall : ∀ w0 : World, Keeps b w0 w → Calls Tryd.prog 18 #[.pointer (some ⟨b, 0, none⟩)] w fun q_ w' => q_ = .returned (.tuple #[]) ∧ Has w' b (enc (m9)) ∧ Keeps b w0 w' from hall w (Keeps.refl b w)
  intro w0 hK
  have P0 := Lib.hid h
  have K0 := Lib.hid hK
  clear h hK
  have HK := Lib.hid hk
  clear hk
  have S0 := Lib.hid H0
  have S1 := Lib.hid H1
  clear H0 H1
  subst h0
  have H69 := Lib.hid h69
  clear h69
  go_enter Tryd.func18, Tryd.ntmps18
  obtain ⟨hc, hf⟩ := P0.out.out
  have e50 : (enc m)[50]? = some (.int .i64 6) := by rw [enc_i _ _ rfl (by omega) (by omega), HK.out]
  go_wp2_with fail
  clear hc hf e50
  with_reducible refine (S0.out _ P0.out).mono ?_
  rintro q_ u1 ⟨rfl, hP, hk⟩
  have P1 := Lib.hid hP
  have K1 := Lib.hid (K0.out.trans hk)
  clear hP hk P0 K0
  obtain ⟨hc, hf⟩ := P1.out.out
  have e69 : (enc m1)[69]? = some (.bool true) := by rw [enc_b _ _ rfl (by omega), decide_eq_true H69.out]
  go_wp2_with fail
  clear hc hf e69
  with_reducible refine (S1.out _ P1.out).mono ?_
  rintro q_ u2 ⟨rfl, hP, hk⟩
  have P2 := Lib.hid hP
  have K2 := Lib.hid (K1.out.trans hk)
  clear hP hk P1 K1
  go_wp2
  all_goals first | exact bodyPost_ret (v := .tuple #[]) (by simp [results, Tryd.results18, go_sem]) rfl ⟨rfl, P2.out, K2.out⟩ | exact bodyPost_end (v := .tuple #[]) (by simp [results, Tryd.results18, go_sem]) rfl ⟨rfl, P2.out, K2.out⟩
set_option maxHeartbeats 2000000 in
theorem perf_7 (b : Nat) (m : M) (k : Int) (hk : m 50 = k) (h0 : k = 7) (m1 : M) (H0 : ∀ W, Has W b (enc (m)) → Calls Tryd.prog 26 #[.pointer (some ⟨b, 0, none⟩)] W fun q_ w' => q_ = .returned (.tuple #[]) ∧ Has w' b (enc (m1)) ∧ Keeps b W w') (w : World) (h : Has w b (enc m)) : Calls Tryd.prog 18 #[.pointer (some ⟨b, 0, none⟩)] w fun q_ w' => q_ = .returned (.tuple #[]) ∧ Has w' b (enc (m1)) ∧ Keeps b w w' := by
  suffices hall : ∀ w0 : World, Keeps b w0 w → Calls Tryd.prog 18 #[.pointer (some ⟨b, 0, none⟩)] w fun q_ w' => q_ = .returned (.tuple #[]) ∧ Has w' b (enc (m1)) ∧ Keeps b w0 w' from hall w (Keeps.refl b w)
  intro w0 hK
  have P0 := Lib.hid h
  have K0 := Lib.hid hK
  clear h hK
  have HK := Lib.hid hk
  clear hk
  have S0 := Lib.hid H0
  clear H0
  subst h0
  go_enter Tryd.func18, Tryd.ntmps18
  obtain ⟨hc, hf⟩ := P0.out.out
  have e50 : (enc m)[50]? = some (.int .i64 7) := by rw [enc_i _ _ rfl (by omega) (by omega), HK.out]
  go_wp2_with fail
  clear hc hf e50
  with_reducible refine (S0.out _ P0.out).mono ?_
  rintro q_ u1 ⟨rfl, hP, hk⟩
  have P1 := Lib.hid hP
  have K1 := Lib.hid (K0.out.trans hk)
  clear hP hk P0 K0
  go_wp2
  all_goals first | exact bodyPost_ret (v := .tuple #[]) (by simp [results, Tryd.results18, go_sem]) rfl ⟨rfl, P1.out, K1.out⟩ | exact bodyPost_end (v := .tuple #[]) (by simp [results, Tryd.results18, go_sem]) rfl ⟨rfl, P1.out, K1.out⟩
set_option maxHeartbeats 2000000 in
theorem perf_n (b : Nat) (m : M) (k : Int) (hk : m 50 = k) (h0 : ¬ k = 0) (h1 : ¬ k = 2) (h2 : ¬ k = 4) (h3 : ¬ k = 6) (h4 : ¬ k = 7) (w : World) (h : Has w b (enc m)) : Calls Tryd.prog 18 #[.pointer (some ⟨b, 0, none⟩)] w fun q_ w' => q_ = .returned (.tuple #[]) ∧ Has w' b (enc (m)) ∧ Keeps b w w' := by
  suffices hall : ∀ w0 : World, Keeps b w0 w → Calls Tryd.prog 18 #[.pointer (some ⟨b, 0, none⟩)] w fun q_ w' => q_ = .returned (.tuple #[]) ∧ Has w' b (enc (m)) ∧ Keeps b w0 w' from hall w (Keeps.refl b w)
  intro w0 hK
  have P0 := Lib.hid h
  have K0 := Lib.hid hK
  clear h hK
  have HK := Lib.hid hk
  clear hk
  have q0 : (k == 0) = false := by simpa using h0
  have q2 : (k == 2) = false := by simpa using h1
  have q4 : (k == 4) = false := by simpa using h2
  have q6 : (k == 6) = false := by simpa using h3
  have q7 : (k == 7) = false := by simpa using h4
  go_enter Tryd.func18, Tryd.ntmps18
  obtain ⟨hc, hf⟩ := P0.out.out
  have e50 : (enc m)[50]? = some (.int .i64 k) := by rw [enc_i _ _ rfl (by omega) (by omega), HK.out]
  go_wp2
  all_goals first | exact bodyPost_ret (v := .tuple #[]) (by simp [results, Tryd.results18, go_sem]) rfl ⟨rfl, P0.out, K0.out⟩ | exact bodyPost_end (v := .tuple #[]) (by simp [results, Tryd.results18, go_sem]) rfl ⟨rfl, P0.out, K0.out⟩
set_option maxHeartbeats 2000000 in
theorem fol_02 (b : Nat) (m : M) (m1 : M) (H : ∀ W, Has W b (enc m) → Calls Tryd.prog 20 #[.pointer (some ⟨b, 0, none⟩), .int .i64 2] W fun q_ w' => q_ = .returned (.tuple #[]) ∧ Has w' b (enc (m1)) ∧ Keeps b W w') (w : World) (h : Has w b (enc m)) : Calls Tryd.prog 17 #[.pointer (some ⟨b, 0, none⟩), .int .i64 2, .int .i64 0] w fun q_ w' => q_ = .returned (.tuple #[]) ∧ Has w' b (enc (m1)) ∧ Keeps b w w' := by
  suffices hall : ∀ w0 : World, Keeps b w0 w → Calls Tryd.prog 17 #[.pointer (some ⟨b, 0, none⟩), .int .i64 2, .int .i64 0] w fun q_ w' => q_ = .returned (.tuple #[]) ∧ Has w' b (enc (m1)) ∧ Keeps b w0 w' from hall w (Keeps.refl b w)
  intro w0 hK
  have P0 := Lib.hid h
  have K0 := Lib.hid hK
  clear h hK
  have SH := Lib.hid H
  clear H
  have hnot : ∀ (x : Bool) (w : World), (Op.unary .not (.bool x)).run Tryd.prog w = .ok (.bool (!x)) w := fun _ _ => rfl
  go_enter Tryd.func17, Tryd.ntmps17
  go_wp2_with fail
  with_reducible refine (SH.out _ P0.out).mono ?_
  rintro q_ u1 ⟨rfl, hP, hk⟩
  have P1 := Lib.hid hP
  have K1 := Lib.hid (K0.out.trans hk)
  clear hP hk P0 K0
  go_wp2
  all_goals first | exact bodyPost_ret (v := .tuple #[]) (by simp [results, Tryd.results17, go_sem]) rfl ⟨rfl, P1.out, K1.out⟩ | exact bodyPost_end (v := .tuple #[]) (by simp [results, Tryd.results17, go_sem]) rfl ⟨rfl, P1.out, K1.out⟩
set_option maxHeartbeats 2000000 in
theorem fol_0n (b : Nat) (m : M) (v : Int) (h0 : ¬ v = 2) (w : World) (h : Has w b (enc m)) : Calls Tryd.prog 17 #[.pointer (some ⟨b, 0, none⟩), .int .i64 v, .int .i64 0] w fun q_ w' => q_ = .returned (.tuple #[]) ∧ Has w' b (enc (m)) ∧ Keeps b w w' := by
  suffices hall : ∀ w0 : World, Keeps b w0 w → Calls Tryd.prog 17 #[.pointer (some ⟨b, 0, none⟩), .int .i64 v, .int .i64 0] w fun q_ w' => q_ = .returned (.tuple #[]) ∧ Has w' b (enc (m)) ∧ Keeps b w0 w' from hall w (Keeps.refl b w)
  intro w0 hK
  have P0 := Lib.hid h
  have K0 := Lib.hid hK
  clear h hK
  have hnot : ∀ (x : Bool) (w : World), (Op.unary .not (.bool x)).run Tryd.prog w = .ok (.bool (!x)) w := fun _ _ => rfl
  go_enter Tryd.func17, Tryd.ntmps17
  go_wp2
  all_goals first | exact bodyPost_ret (v := .tuple #[]) (by simp [results, Tryd.results17, go_sem]) rfl ⟨rfl, P0.out, K0.out⟩ | exact bodyPost_end (v := .tuple #[]) (by simp [results, Tryd.results17, go_sem]) rfl ⟨rfl, P0.out, K0.out⟩
set_option maxHeartbeats 2000000 in
theorem fol_1 (b : Nat) (m : M) (v : Int) (m1 : M) (H : ∀ W, Has W b (enc m) → Calls Tryd.prog 21 #[.pointer (some ⟨b, 0, none⟩), .int .i64 v] W fun q_ w' => q_ = .returned (.tuple #[]) ∧ Has w' b (enc (m1)) ∧ Keeps b W w') (w : World) (h : Has w b (enc m)) : Calls Tryd.prog 17 #[.pointer (some ⟨b, 0, none⟩), .int .i64 v, .int .i64 1] w fun q_ w' => q_ = .returned (.tuple #[]) ∧ Has w' b (enc (m1)) ∧ Keeps b w w' := by
  suffices hall : ∀ w0 : World, Keeps b w0 w → Calls Tryd.prog 17 #[.pointer (some ⟨b, 0, none⟩), .int .i64 v, .int .i64 1] w fun q_ w' => q_ = .returned (.tuple #[]) ∧ Has w' b (enc (m1)) ∧ Keeps b w0 w' from hall w (Keeps.refl b w)
  intro w0 hK
  have P0 := Lib.hid h
  have K0 := Lib.hid hK
  clear h hK
  have SH := Lib.hid H
  clear H
  have hnot : ∀ (x : Bool) (w : World), (Op.unary .not (.bool x)).run Tryd.prog w = .ok (.bool (!x)) w := fun _ _ => rfl
  go_enter Tryd.func17, Tryd.ntmps17
  go_wp2_with fail
  with_reducible refine (SH.out _ P0.out).mono ?_
  rintro q_ u1 ⟨rfl, hP, hk⟩
  have P1 := Lib.hid hP
  have K1 := Lib.hid (K0.out.trans hk)
  clear hP hk P0 K0
  go_wp2
  all_goals first | exact bodyPost_ret (v := .tuple #[]) (by simp [results, Tryd.results17, go_sem]) rfl ⟨rfl, P1.out, K1.out⟩ | exact bodyPost_end (v := .tuple #[]) (by simp [results, Tryd.results17, go_sem]) rfl ⟨rfl, P1.out, K1.out⟩
set_option maxHeartbeats 2000000 in
theorem fol_2 (b : Nat) (m : M) (v : Int) (m1 : M) (H : ∀ W, Has W b (enc m) → Calls Tryd.prog 20 #[.pointer (some ⟨b, 0, none⟩), .int .i64 v] W fun q_ w' => q_ = .returned (.tuple #[]) ∧ Has w' b (enc (m1)) ∧ Keeps b W w') (w : World) (h : Has w b (enc m)) : Calls Tryd.prog 17 #[.pointer (some ⟨b, 0, none⟩), .int .i64 v, .int .i64 2] w fun q_ w' => q_ = .returned (.tuple #[]) ∧ Has w' b (enc (m1)) ∧ Keeps b w w' := by
  suffices hall : ∀ w0 : World, Keeps b w0 w → Calls Tryd.prog 17 #[.pointer (some ⟨b, 0, none⟩), .int .i64 v, .int .i64 2] w fun q_ w' => q_ = .returned (.tuple #[]) ∧ Has w' b (enc (m1)) ∧ Keeps b w0 w' from hall w (Keeps.refl b w)
  intro w0 hK
  have P0 := Lib.hid h
  have K0 := Lib.hid hK
  clear h hK
  have SH := Lib.hid H
  clear H
  have hnot : ∀ (x : Bool) (w : World), (Op.unary .not (.bool x)).run Tryd.prog w = .ok (.bool (!x)) w := fun _ _ => rfl
  go_enter Tryd.func17, Tryd.ntmps17
  go_wp2_with fail
  with_reducible refine (SH.out _ P0.out).mono ?_
  rintro q_ u1 ⟨rfl, hP, hk⟩
  have P1 := Lib.hid hP
  have K1 := Lib.hid (K0.out.trans hk)
  clear hP hk P0 K0
  go_wp2
  all_goals first | exact bodyPost_ret (v := .tuple #[]) (by simp [results, Tryd.results17, go_sem]) rfl ⟨rfl, P1.out, K1.out⟩ | exact bodyPost_end (v := .tuple #[]) (by simp [results, Tryd.results17, go_sem]) rfl ⟨rfl, P1.out, K1.out⟩
set_option maxHeartbeats 2000000 in
theorem fol_3 (b : Nat) (m : M) (v : Int) (w : World) (h : Has w b (enc m)) : Calls Tryd.prog 17 #[.pointer (some ⟨b, 0, none⟩), .int .i64 v, .int .i64 3] w fun q_ w' => q_ = .returned (.tuple #[]) ∧ Has w' b (enc (m)) ∧ Keeps b w w' := by
  suffices hall : ∀ w0 : World, Keeps b w0 w → Calls Tryd.prog 17 #[.pointer (some ⟨b, 0, none⟩), .int .i64 v, .int .i64 3] w fun q_ w' => q_ = .returned (.tuple #[]) ∧ Has w' b (enc (m)) ∧ Keeps b w0 w' from hall w (Keeps.refl b w)
  intro w0 hK
  have P0 := Lib.hid h
  have K0 := Lib.hid hK
  clear h hK
  have hnot : ∀ (x : Bool) (w : World), (Op.unary .not (.bool x)).run Tryd.prog w = .ok (.bool (!x)) w := fun _ _ => rfl
  go_enter Tryd.func17, Tryd.ntmps17
  go_wp2
  all_goals first | exact bodyPost_ret (v := .tuple #[]) (by simp [results, Tryd.results17, go_sem]) rfl ⟨rfl, P0.out, K0.out⟩ | exact bodyPost_end (v := .tuple #[]) (by simp [results, Tryd.results17, go_sem]) rfl ⟨rfl, P0.out, K0.out⟩
set_option maxHeartbeats 2000000 in
theorem fol_40 (b : Nat) (m : M) (v : Int) (vn : Nat) (hv : v = vn) (h4 : vn < 4) (x : Int) (g0 : 0 ≤ x) (g1 : x < 256) (hx : m (vn * 5 + 4) = x) (hd : ¬ 128 ≤ x) (w : World) (h : Has w b (enc m)) : Calls Tryd.prog 17 #[.pointer (some ⟨b, 0, none⟩), .int .i64 v, .int .i64 4] w fun q_ w' => q_ = .returned (.tuple #[]) ∧ Has w' b (enc (m)) ∧ Keeps b w w' := by
  suffices hall : ∀ w0 : World, Keeps b w0 w → Calls Tryd.prog 17 #[.pointer (some ⟨b, 0, none⟩), .int .i64 v, .int .i64 4] w fun q_ w' => q_ = .returned (.tuple #[]) ∧ Has w' b (enc (m)) ∧ Keeps b w0 w' from hall w (Keeps.refl b w)
  intro w0 hK
  have P0 := Lib.hid h
  have K0 := Lib.hid hK
  clear h hK
  have q1 : (bits .and .u8 x 128 != 0) = false := (b128 x g0 g1).trans (by simpa using hd)
  have HX := Lib.hid hx
  have HV := Lib.hid hv
  clear hx hv
  have hnot : ∀ (x : Bool) (w : World), (Op.unary .not (.bool x)).run Tryd.prog w = .ok (.bool (!x)) w := fun _ _ => rfl
  go_enter Tryd.func17, Tryd.ntmps17
  go_wp2_with fail
  with_reducible refine (register_c b m _ 4 vn 4 (vn * 5 + 4) HV.out rfl rfl (by omega) x HX.out _ P0.out).mono ?_
  rintro q_ w' ⟨rfl, rfl⟩
  go_wp2
  all_goals first | exact bodyPost_ret (v := .tuple #[]) (by simp [results, Tryd.results17, go_sem]) rfl ⟨rfl, P0.out, K0.out⟩ | exact bodyPost_end (v := .tuple #[]) (by simp [results, Tryd.results17, go_sem]) rfl ⟨rfl, P0.out, K0.out⟩
set_option maxHeartbeats 2000000 in
theorem fol_41 (b : Nat) (m : M) (v : Int) (vn : Nat) (hv : v = vn) (h4 : vn < 4) (x : Int) (g0 : 0 ≤ x) (g1 : x < 256) (hx : m (vn * 5 + 4) = x) (hd : 128 ≤ x) (m1 : M) (H : ∀ W, Has W b (enc m) → Calls Tryd.prog 23 #[.pointer (some ⟨b, 0, none⟩), .int .i64 v] W fun q_ w' => q_ = .returned (.tuple #[]) ∧ Has w' b (enc (m1)) ∧ Keeps b W w') (w : World) (h : Has w b (enc m)) : Calls Tryd.prog 17 #[.pointer (some ⟨b, 0, none⟩), .int .i64 v, .int .i64 4] w fun q_ w' => q_ = .returned (.tuple #[]) ∧ Has w' b (enc (m1)) ∧ Keeps b w w' := by
  suffices hall : ∀ w0 : World, Keeps b w0 w → Calls Tryd.prog 17 #[.pointer (some ⟨b, 0, none⟩), .int .i64 v, .int .i64 4] w fun q_ w' => q_ = .returned (.tuple #[]) ∧ Has w' b (enc (m1)) ∧ Keeps b w0 w' from hall w (Keeps.refl b w)
  intro w0 hK
  have P0 := Lib.hid h
  have K0 := Lib.hid hK
  clear h hK
  have q1 : (bits .and .u8 x 128 != 0) = true := (b128 x g0 g1).trans (by simpa using hd)
  have HX := Lib.hid hx
  have HV := Lib.hid hv
  clear hx hv
  have SH := Lib.hid H
  clear H
  have hnot : ∀ (x : Bool) (w : World), (Op.unary .not (.bool x)).run Tryd.prog w = .ok (.bool (!x)) w := fun _ _ => rfl
  go_enter Tryd.func17, Tryd.ntmps17
  go_wp2_with fail
  with_reducible refine (register_c b m _ 4 vn 4 (vn * 5 + 4) HV.out rfl rfl (by omega) x HX.out _ P0.out).mono ?_
  rintro q_ w' ⟨rfl, rfl⟩
  go_wp2_with fail
  with_reducible refine (SH.out _ P0.out).mono ?_
  rintro q_ u1 ⟨rfl, hP, hk⟩
  have P1 := Lib.hid hP
  have K1 := Lib.hid (K0.out.trans hk)
  clear hP hk P0 K0
  go_wp2
  all_goals first | exact bodyPost_ret (v := .tuple #[]) (by simp [results, Tryd.results17, go_sem]) rfl ⟨rfl, P1.out, K1.out⟩ | exact bodyPost_end (v := .tuple #[]) (by simp [results, Tryd.results17, go_sem]) rfl ⟨rfl, P1.out, K1.out⟩
theorem perform_c (b : Nat) (m : M) (h : okM m) (w : World) (hh : Has w b (enc m)) : Calls Tryd.prog 18 #[.pointer (some ⟨b, 0, none⟩)] w fun q_ w' => q_ = .returned (.tuple #[]) ∧ Has w' b (enc (perfV m)) ∧ Keeps b w w' := by
  have hs := fun W hW => shorten_c b m h W hW
  have k := ok_shN h 4 (by omega)
  unfold perfV
  by_cases g0 : m 50 = 0
  · rw [if_pos (Or.inl g0)]; exact perf_00 b m _ rfl g0 _ hs w hh
  by_cases g4 : m 50 = 4
  · rw [if_pos (Or.inr g4)]; exact perf_04 b m _ rfl g4 _ hs w hh
  rw [if_neg (by omega)]
  by_cases g2 : m 50 = 2
  · rw [if_pos (Or.inl g2)]
    by_cases g : shN m 4 69 = 1
    · rw [if_pos g]; exact perf_22 b m _ rfl g2 _ _ g hs (fun W hW => csl_c b _ k W hW) w hh
    · rw [if_neg g]; exact perf_12 b m _ rfl g2 _ g hs w hh
  by_cases g6 : m 50 = 6
  · rw [if_pos (Or.inr g6)]
    by_cases g : shN m 4 69 = 1
    · rw [if_pos g]; exact perf_26 b m _ rfl g6 _ _ g hs (fun W hW => csl_c b _ k W hW) w hh
    · rw [if_neg g]; exact perf_16 b m _ rfl g6 _ g hs w hh
  rw [if_neg (by omega)]
  by_cases g7 : m 50 = 7
  · rw [if_pos g7]; exact perf_7 b m _ rfl g7 _ (fun W hW => levels_c b m h W hW) w hh
  · rw [if_neg g7]; exact perf_n b m _ rfl g0 g2 g4 g6 g7 w hh
theorem follow_c (b : Nat) (m : M) (h : okM m) (v n : Int) (vn nn : Nat) (hv : v = vn) (hn : n = nn) (h4 : vn < 4) (h5 : nn < 5) (w : World) (hh : Has w b (enc m)) : Calls Tryd.prog 17 #[.pointer (some ⟨b, 0, none⟩), .int .i64 v, .int .i64 n] w fun q_ w' => q_ = .returned (.tuple #[]) ∧ Has w' b (enc (followV m vn nn)) ∧ Keeps b w w' := by
  have hx := h.reg (vn * 5 + 4) (by omega)
  have e : nn = 0 ∨ nn = 1 ∨ nn = 2 ∨ nn = 3 ∨ nn = 4 := by omega
  rcases e with rfl | rfl | rfl | rfl | rfl
  · subst hn
    by_cases g : vn = 2
    · subst g hv
      exact fol_02 b m _ (fun W hW => stopUn_c b m h 2 2 rfl h4 W hW) w hh
    · have e : followV m vn 0 = m := by show (if vn = 2 then stopU m vn else m) = m; rw [if_neg g]
      rw [e]; exact fol_0n b m v (by omega) w hh
  · subst hn; exact fol_1 b m v _ (fun W hW => load_c b m h v vn hv h4 W hW) w hh
  · subst hn; exact fol_2 b m v _ (fun W hW => stopUn_c b m h v vn hv h4 W hW) w hh
  · subst hn; exact fol_3 b m v w hh
  · subst hn
    by_cases g : 128 ≤ m (vn * 5 + 4)
    · have e : followV m vn 4 = trigV m vn := by show (if 128 ≤ m (vn * 5 + 4) then trigV m vn else m) = _; rw [if_pos g]
      rw [e]; exact fol_41 b m v vn hv h4 _ hx.1 hx.2 rfl g _ (fun W hW => trig_c b m h v vn hv h4 W hW) w hh
    · have e : followV m vn 4 = m := by show (if 128 ≤ m (vn * 5 + 4) then trigV m vn else m) = _; rw [if_neg g]
      rw [e]; exact fol_40 b m v vn hv h4 _ hx.1 hx.2 rfl g w hh
end Go.Proofs.YtonmnpadmphbdaaDoor
