/-
  Proved: for every two bytes taken as numbers below 100, added or taken away, the law AluDigits returns true (Rows.AluDigitsSaid), with no condition.
-/
import Derived.Test.YtiodaonehbkgcaaRows
import Derived.WalkKit
import Derived.ProofKit
import Derived.OpenShut
import Derived.Test.YtiodaonehbkgcaaAlu
import Derived.Test.YtiodaonehbkgcaaBase
import Derived.Test.YtiodaonehbkgcaaDig
namespace Go.Proofs.Ytiodaonehbkgcaa.aluDigits
open Go.ChangeShapes Go.WideShapes Go.ChangeAt Go.RowKit
set_option linter.unusedVariables false      -- a walk need not use every 'w<i>' (that an integer argument fits its kind)

theorem c_ne (f : Int) (h1 : 0 ≤ f) (h2 : f < 256) : (bits .and .u8 f 16 != 0) = cf f :=
  byte_all (P := fun f => (bits .and .u8 f 16 != 0) = cf f) (by decide +kernel) f h1 h2
theorem z_ne (f : Int) (h1 : 0 ≤ f) (h2 : f < 256) : (bits .and .u8 f 128 != 0) = zf f :=
  byte_all (P := fun f => (bits .and .u8 f 128 != 0) = zf f) (by decide +kernel) f h1 h2
theorem dig_mod (a : Int) : dig (a % 100) = a % 100 / 10 * 16 + a % 10 := by unfold dig; omega
theorem sum_facts (a b : Int) :
    daaR (addR (a % 100 / 10 * 16 + a % 10) (b % 100 / 10 * 16 + b % 10) false) (addF (a % 100 / 10 * 16 + a % 10) (b % 100 / 10 * 16 + b % 10) false) = (a + b) % 100 / 10 * 16 + (a + b) % 10 ∧
    (bits .and .u8 (daaF (addR (a % 100 / 10 * 16 + a % 10) (b % 100 / 10 * 16 + b % 10) false) (addF (a % 100 / 10 * 16 + a % 10) (b % 100 / 10 * 16 + b % 10) false)) 16 != 0) = decide (99 < a % 100 + b % 100) ∧
    (bits .and .u8 (daaF (addR (a % 100 / 10 * 16 + a % 10) (b % 100 / 10 * 16 + b % 10) false) (addF (a % 100 / 10 * 16 + a % 10) (b % 100 / 10 * 16 + b % 10) false)) 128 != 0) = ((a + b) % 100 == 0) ∧
    bits .and .u8 (daaF (addR (a % 100 / 10 * 16 + a % 10) (b % 100 / 10 * 16 + b % 10) false) (addF (a % 100 / 10 * 16 + a % 10) (b % 100 / 10 * 16 + b % 10) false)) 32 = 0 := by
  have K := sum_ok (a % 100) (b % 100) (by omega) (by omega) (by omega) (by omega)
  rw [← dig_mod a, ← dig_mod b, ← dig_mod (a + b)]
  simp only [sumOk, Bool.and_eq_true, beq_iff_eq] at K
  obtain ⟨⟨⟨k1, k2⟩, k3⟩, k4⟩ := K
  rw [show (a % 100 + b % 100) % 100 = (a + b) % 100 by omega] at k1 k3
  have hb := FL_b (daaR (addR (dig (a % 100)) (dig (b % 100)) false) (addF (dig (a % 100)) (dig (b % 100)) false) == 0) (nf (addF (dig (a % 100)) (dig (b % 100)) false)) false (cf (addF (dig (a % 100)) (dig (b % 100)) false) || (!nf (addF (dig (a % 100)) (dig (b % 100)) false) && decide (153 < addR (dig (a % 100)) (dig (b % 100)) false)))
  change 0 ≤ daaF _ _ ∧ daaF _ _ < 256 at hb
  refine ⟨k1, ?_, ?_, ?_⟩
  · rw [c_ne _ hb.1 hb.2, k2]
  · rw [z_ne _ hb.1 hb.2, k3]
  · rw [and32 _ hb.1 hb.2, k4]; rfl
theorem less_facts (a b : Int) :
    daaR (subR (a % 100 / 10 * 16 + a % 10) (b % 100 / 10 * 16 + b % 10) false) (subF (a % 100 / 10 * 16 + a % 10) (b % 100 / 10 * 16 + b % 10) false) = (a - b) % 100 / 10 * 16 + (a - b) % 10 ∧
    (bits .and .u8 (daaF (subR (a % 100 / 10 * 16 + a % 10) (b % 100 / 10 * 16 + b % 10) false) (subF (a % 100 / 10 * 16 + a % 10) (b % 100 / 10 * 16 + b % 10) false)) 16 != 0) = decide (a % 100 < b % 100) ∧
    (bits .and .u8 (daaF (subR (a % 100 / 10 * 16 + a % 10) (b % 100 / 10 * 16 + b % 10) false) (subF (a % 100 / 10 * 16 + a % 10) (b % 100 / 10 * 16 + b % 10) false)) 128 != 0) = ((a - b) % 100 == 0) ∧
    bits .and .u8 (daaF (subR (a % 100 / 10 * 16 + a % 10) (b % 100 / 10 * 16 + b % 10) false) (subF (a % 100 / 10 * 16 + a % 10) (b % 100 / 10 * 16 + b % 10) false)) 32 = 0 := by
  have K := less_ok (a % 100) (b % 100) (by omega) (by omega) (by omega) (by omega)
  rw [← dig_mod a, ← dig_mod b, ← dig_mod (a - b)]
  simp only [lessOk, Bool.and_eq_true, beq_iff_eq] at K
  obtain ⟨⟨⟨k1, k2⟩, k3⟩, k4⟩ := K
  rw [show (a % 100 - b % 100 + 100) % 100 = (a - b) % 100 by omega] at k1 k3
  have hb := FL_b (daaR (subR (dig (a % 100)) (dig (b % 100)) false) (subF (dig (a % 100)) (dig (b % 100)) false) == 0) (nf (subF (dig (a % 100)) (dig (b % 100)) false)) false (cf (subF (dig (a % 100)) (dig (b % 100)) false) || (!nf (subF (dig (a % 100)) (dig (b % 100)) false) && decide (153 < subR (dig (a % 100)) (dig (b % 100)) false)))
  change 0 ≤ daaF _ _ ∧ daaF _ _ < 256 at hb
  refine ⟨k1, ?_, ?_, ?_⟩
  · rw [c_ne _ hb.1 hb.2, k2]
  · rw [z_ne _ hb.1 hb.2, k3]
  · rw [and32 _ hb.1 hb.2, k4]; rfl
theorem own : ownKnob Try.prog.godebug = none := by kernel_rfl

/-! ### STEP 1: THE WALK: the Go text returns true. 'Grown w w'': the world has at most new blocks (Derived/RowKit3.lean). Part the cases AHEAD of 'go_enter' where a test parts the walk; take each callee by a contract of your own. -/
theorem walk (a0 : Int) (a1 : Int) (a2 : Bool) (w0 : (Lit.int .u8 a0).wf = true) (w1 : (Lit.int .u8 a1).wf = true) (w : World) :
    Calls Try.prog 7 #[.int .u8 a0, .int .u8 a1, .bool a2] w fun e w' => e = .returned (.bool true) ∧ Grown w w' := by
  obtain ⟨p0, q0⟩ := u8_bd w0
  obtain ⟨p1, q1⟩ := u8_bd w1
  clear w0 w1
  cases a2
  · obtain ⟨e1, e2, e3, e4⟩ := sum_facts a0 a1
    go_enter Try.func7, Try.ntmps7
    go_wp2_with (first | (go_at_call 10; refine (awake_c _).mono ?_; rintro e w' ⟨rfl, rfl⟩) | (go_at_call 11; refine (add_c _ _ _ (by omega) (by omega) (by omega) (by omega) _).mono ?_; rintro e w' ⟨rfl, rfl⟩) | (go_at_call 23; refine (daa_c _ _ (addR_bd _ _ _).1 (addR_bd _ _ _).2 (addF_bd _ _ _).1 (addF_bd _ _ _).2 _).mono ?_; rintro e w' ⟨rfl, rfl⟩) )
    go_ret
    exact ⟨rfl, Grown.refl _⟩
  · obtain ⟨e1, e2, e3, e4⟩ := less_facts a0 a1
    go_enter Try.func7, Try.ntmps7
    go_wp2_with (first | (go_at_call 10; refine (awake_c _).mono ?_; rintro e w' ⟨rfl, rfl⟩) | (go_at_call 11; refine (add_c _ _ _ (by omega) (by omega) (by omega) (by omega) _).mono ?_; rintro e w' ⟨rfl, rfl⟩) | (go_at_call 13; refine (sub_c _ _ _ (by omega) (by omega) (by omega) (by omega) _).mono ?_; rintro e w' ⟨rfl, rfl⟩) | (go_at_call 23; refine (daa_c _ _ (subR_bd _ _ _).1 (subR_bd _ _ _).2 (subF_bd _ _ _).1 (subF_bd _ _ _).2 _).mono ?_; rintro e w' ⟨rfl, rfl⟩) )
    go_ret
    exact ⟨rfl, Grown.refl _⟩

/-! ### THE ROW's STEP: WRITTEN OUT: LEAVE IT -/
set_option maxRecDepth 100000 in
theorem lifted (os : Os) (started : os.Started) (H : Type) (enc : TypeId × Value → H) :
    ReturnsInHanded {} Try.checked os 7 .any (Rows.aluDigitsSpec.pre6 enc Try.prog Try.f7 Rows.aluDigitsRow.domain false) (Rows.aluDigitsSpec.post enc Try.prog Try.f7 false true false false) := by
  refine returnsInHanded_of_change (C := Try.checked) own started (by kernel_rfl) Try.func7
    (ChangeSpec.witness6 (enc := enc) (C := Try.checked) false ⟨#[], #[.int .u8 0, .int .u8 0, .bool false], []⟩ 8 (by kernel_rfl) (by kernel_rfl) (by kernel_rfl) (by kernel_rfl)) ?_
  intro W base args ds gs before hval0 hW hcnd _
  have hval : ∀ (j : Nat) t v, Try.f7.params[j]? = some t → args[j]? = some v → Value.okWide Try.prog W .any base t v := hval0
  have hW' := hW
  obtain ⟨p, q, hA0, hV, rfl, hfz, hnd⟩ := hW
  have hA : DataW.TrodAll enc Try.prog W 0 (fun _ => true) true Try.f7.params.toList args.toList ds p := hA0
  rw [Try.params7] at hA hval
  obtain ⟨v0, vs0, d0, ds0, p0, q0, hargs, rfl, rfl, h0, r0⟩ := trodAll_cons hA
  obtain ⟨v1, vs1, d1, ds1, p1, q1, rfl, rfl, rfl, h1, r1⟩ := trodAll_cons r0
  obtain ⟨v2, vs2, d2, ds2, p2, q2, rfl, rfl, rfl, h2, r2⟩ := trodAll_cons r1
  obtain ⟨rfl, rfl, rfl⟩ := trodAll_nil r2
  obtain rfl : args = #[v0, v1, v2] := by cases args; simp_all
  obtain ⟨rfl, rfl⟩ := trodVars_none hV
  obtain ⟨a0, rfl, rfl, rfl, w0⟩ := open_int Try.underlying5 (hval 0 5 v0 rfl rfl) h0
  obtain ⟨a1, rfl, rfl, rfl, w1⟩ := open_int Try.underlying5 (hval 1 5 v1 rfl rfl) h1
  obtain ⟨a2, rfl, rfl, rfl⟩ := open_bool Try.underlying4 (hval 2 4 v2 rfl rfl) h2
  clear hA0 hval0
  simp only [List.append_nil] at hW'
  refine (walk a0 a1 a2 w0 w1 W).mono fun e W' ⟨he, hg⟩ => ?_
  subst he
  exact ⟨_, rfl, post_of_same (pa := []) (pv := []) hW' (fun _ _ _ => (trodAll_cons_mk (shut_bool Try.underlying4 _) trodAll_mk0)) (fun sp _ => (trodAll_cons_mk (shut_int Try.underlying5 w0) (trodAll_cons_mk (shut_int Try.underlying5 w1) (trodAll_cons_mk (shut_bool Try.underlying4 _) trodAll_mk0)))) (fun _ _ => rfl) rfl
    (hg.frame _) hg.2.1 (ok_one (by kernel_rfl) rfl (okWide_bool_mk Try.underlying4 _))⟩

theorem over : Rows.aluDigitsRow.holds Try.pinned (OpenSpec.ofChange Rows.aluDigitsSpec) :=
  OpenClaim.holds_of_wide 7 Try.f7 rfl rfl rfl rfl rfl rfl rfl ⟨rfl, rfl, rfl, rfl, rfl⟩ rfl rfl rfl rfl rfl (by kernel_rfl) Try.func7 (by kernel_rfl)
    (of_decide_eq_true (by kernel_rfl)) (by unfold Func.isWrapper; first | (rw [if_pos (by decide +kernel)]; kernel_rfl) | (rw [if_neg (by decide +kernel)]; exact ⟨rfl, rfl⟩))
    (fun os started H enc _ => lifted os started H enc)

/-- ████ THE STATEMENT ████ -/
theorem proved : Rows.AluDigitsSaid :=
  over
#print axioms proved
end Go.Proofs.Ytiodaonehbkgcaa.aluDigits
