/-
  Proved: for every byte and every flags, the law AluTurns returns true (Rows.AluTurnsSaid), with no condition.
-/
import Derived.Test.YtiodaonehbkgcaaRows
import Derived.WalkKit
import Derived.ProofKit
import Derived.OpenShut
import Derived.Test.YtiodaonehbkgcaaAlu
import Derived.Test.YtiodaonehbkgcaaBase
namespace Go.Proofs.Ytiodaonehbkgcaa.aluTurns
open Go.ChangeShapes Go.WideShapes Go.ChangeAt Go.RowKit
set_option linter.unusedVariables false      -- a walk need not use every 'w<i>' (that an integer argument fits its kind)

def rot : Nat → Int → Int
  | 0, a => a
  | n + 1, a => turnR 0 (rot n a) 0
theorem turnR_b (k a f : Int) (h1 : 0 ≤ a) (h2 : a < 256) : 0 ≤ turnR k a f ∧ turnR k a f < 256 := by
  have e1 := fl_bd 1 (by decide) (cf f)
  have e2 := fl_bd 128 (by decide) (cf f)
  unfold turnR
  (repeat' split) <;> omega
theorem turnF_b (k a f : Int) : 0 ≤ turnF k a f ∧ turnF k a f < 256 := FL_b _ _ _ _
theorem rot_b (n : Nat) (a : Int) (h1 : 0 ≤ a) (h2 : a < 256) : 0 ≤ rot n a ∧ rot n a < 256 := by
  induction n with
  | zero => exact ⟨h1, h2⟩
  | succ n ih => exact turnR_b _ _ _ ih.1 ih.2
theorem R0 (a f : Int) : turnR 0 a f = a * 2 % 256 + a / 128 := by simp [turnR]
theorem R1 (a f : Int) : turnR 1 a f = a / 2 + a % 2 * 128 := by simp [turnR]
theorem R2 (a f : Int) : turnR 2 a f = a * 2 % 256 + fl 1 (cf f) := by simp [turnR]
theorem R3 (a f : Int) : turnR 3 a f = a / 2 + fl 128 (cf f) := by simp [turnR]
theorem R4 (a f : Int) : turnR 4 a f = a * 2 % 256 := by simp [turnR]
theorem R5 (a f : Int) : turnR 5 a f = a / 2 + a / 128 * 128 := by simp [turnR]
theorem R6 (a f : Int) : turnR 6 a f = a * 16 % 256 + a / 16 := by simp [turnR]
theorem R7 (a f : Int) : turnR 7 a f = a / 2 := by simp [turnR]
theorem cfFL (z n h c : Bool) : cf (FL z n h c) = c := by cases z <;> cases n <;> cases h <;> cases c <;> kernel_rfl
theorem f1 (a f : Int) (h1 : 0 ≤ a) (h2 : a < 256) : turnR 1 (turnR 0 a f) (turnF 0 a f) = a := by
  rw [R1, R0]; exact byte_all (P := fun a => (a * 2 % 256 + a / 128) / 2 + (a * 2 % 256 + a / 128) % 2 * 128 = a) (by decide +kernel) a h1 h2
theorem f2 (a f : Int) (h1 : 0 ≤ a) (h2 : a < 256) : turnR 3 (turnR 2 a f) (turnF 2 a f) = a := by
  rw [R3, R2]; unfold turnF; rw [cfFL]
  have : turnO 2 a = (a / 128 == 1) := by simp [turnO]
  rw [this]
  exact byte_all (P := fun a => ∀ c : Bool, (a * 2 % 256 + fl 1 c) / 2 + fl 128 (a / 128 == 1) = a) (by decide +kernel) a h1 h2 (cf f)
theorem f3 (a f : Int) (h3 : 0 ≤ f) (h4 : f < 256) : bits .and .u8 (turnF 3 (turnR 2 a f) (turnF 2 a f)) 16 = bits .and .u8 f 16 := by
  rw [and16 f h3 h4]; unfold turnF; rw [FL_c]
  refine congrArg (fl 16) ?_
  have : ∀ x, turnO 3 x = (x % 2 == 1) := by intro x; simp [turnO]
  rw [this, R2]
  cases cf f <;> simp [fl] <;> omega
theorem f4 (a f : Int) (h1 : 0 ≤ a) (h2 : a < 256) : turnR 6 (turnR 6 a f) f = a := by
  rw [R6, R6]; exact byte_all (P := fun a => (a * 16 % 256 + a / 16) * 16 % 256 + (a * 16 % 256 + a / 16) / 16 = a) (by decide +kernel) a h1 h2
theorem f5 (a : Int) (h1 : 0 ≤ a) (h2 : a < 256) : rot 8 a = a := byte_all (P := fun a => rot 8 a = a) (by decide +kernel) a h1 h2
theorem f6 (a f : Int) (h1 : 0 ≤ a) (h2 : a < 256) : wrap64 (wrap64 (turnR 4 a f) + 256 * ((bits .and .u8 (turnF 4 a f) 16).tdiv 16 % 256)) = 2 * a := by
  have : turnO 4 a = (a / 128 == 1) := by simp [turnO]
  unfold turnF; rw [FL_c, this, R4]
  exact byte_all (P := fun a => wrap64 (wrap64 (a * 2 % 256) + 256 * ((fl 16 (a / 128 == 1)).tdiv 16 % 256)) = 2 * a) (by decide +kernel) a h1 h2
theorem f8 (a f : Int) (h1 : 0 ≤ a) (h2 : a < 256) : turnR 5 a f = IntKind.i8.wrap a / 2 % 256 := by
  rw [R5]; exact byte_all (P := fun a => a / 2 + a / 128 * 128 = IntKind.i8.wrap a / 2 % 256) (by decide +kernel) a h1 h2
theorem own : ownKnob Try.prog.godebug = none := by kernel_rfl

/-! ### STEP 1: THE WALK: the Go text returns true. 'Grown w w'': the world has at most new blocks (Derived/RowKit3.lean). Part the cases AHEAD of 'go_enter' where a test parts the walk; take each callee by a contract of your own. -/
set_option maxHeartbeats 1000000 in
theorem walk (a0 : Int) (a1 : Int) (w0 : (Lit.int .u8 a0).wf = true) (w1 : (Lit.int .u8 a1).wf = true) (w : World) :
    Calls Try.prog 8 #[.int .u8 a0, .int .u8 a1] w fun e w' => e = .returned (.bool true) ∧ Grown w w' := by
  obtain ⟨p0, q0⟩ := u8_bd w0
  obtain ⟨p1, q1⟩ := u8_bd w1
  clear w0 w1
  have b0 := turnR_b 0 a0 a1 p0 q0
  have c0 := turnF_b 0 a0 a1
  have b2 := turnR_b 2 a0 a1 p0 q0
  have c2 := turnF_b 2 a0 a1
  have b6 := turnR_b 6 a0 a1 p0 q0
  go_enter Try.func8, Try.ntmps8
  go_wp2_with (first | (go_at_call 10; refine (awake_c _).mono ?_; rintro e w' ⟨rfl, rfl⟩) | (go_at_call 25; refine (turn_c _ _ _ (by omega) (by omega) (by omega) (by omega) _).mono ?_; rintro e w' ⟨rfl, rfl⟩))
  go_loop [17, 63] (fun e i => ∃ k : Nat, k ≤ 8 ∧ i = .int .i64 k ∧ e = .int .u8 (rot k a0)) (fun _ i => 8 - (intOf i).toNat)
  case atStart => exact ⟨0, by omega, rfl, rfl⟩
  case round =>
    obtain ⟨k, hk, rfl, rfl⟩ := hrel
    have hr := rot_b k a0 p0 q0
    by_cases hlt : k < 8
    · go_wp2_with (go_at_call 25; refine (turn_c _ _ _ hr.1 hr.2 (by decide) (by decide) _).mono ?_; rintro e w' ⟨rfl, rfl⟩)
      go_round
      case rel => exact ⟨k + 1, by omega, by go_num, rfl⟩
      case measure => simp [intOf]; omega
    · obtain rfl : k = 8 := by omega
      have g1 := f1 a0 a1 p0 q0
      have g2 := f2 a0 a1 p0 q0
      have g3 := f3 a0 a1 p1 q1
      have g4 := f4 a0 a1 p0 q0
      have g5 := f5 a0 p0 q0
      have g6 := f6 a0 a1 p0 q0
      have g7 := R7 a0 a1
      have g8 := f8 a0 a1 p0 q0
      go_wp2_with (go_at_call 25; refine (turn_c _ _ _ (by omega) (by omega) (by omega) (by omega) _).mono ?_; rintro e w' ⟨rfl, rfl⟩)
      go_ret
      exact ⟨rfl, Grown.refl _⟩

/-! ### THE ROW's STEP: WRITTEN OUT: LEAVE IT -/
set_option maxRecDepth 100000 in
theorem lifted (os : Os) (started : os.Started) (H : Type) (enc : TypeId × Value → H) :
    ReturnsInHanded {} Try.checked os 8 .any (Rows.aluTurnsSpec.pre6 enc Try.prog Try.f8 Rows.aluTurnsRow.domain false) (Rows.aluTurnsSpec.post enc Try.prog Try.f8 false true false false) := by
  refine returnsInHanded_of_change (C := Try.checked) own started (by kernel_rfl) Try.func8
    (ChangeSpec.witness6 (enc := enc) (C := Try.checked) false ⟨#[], #[.int .u8 0, .int .u8 0], []⟩ 8 (by kernel_rfl) (by kernel_rfl) (by kernel_rfl) (by kernel_rfl)) ?_
  intro W base args ds gs before hval0 hW hcnd _
  have hval : ∀ (j : Nat) t v, Try.f8.params[j]? = some t → args[j]? = some v → Value.okWide Try.prog W .any base t v := hval0
  have hW' := hW
  obtain ⟨p, q, hA0, hV, rfl, hfz, hnd⟩ := hW
  have hA : DataW.TrodAll enc Try.prog W 0 (fun _ => true) true Try.f8.params.toList args.toList ds p := hA0
  rw [Try.params8] at hA hval
  obtain ⟨v0, vs0, d0, ds0, p0, q0, hargs, rfl, rfl, h0, r0⟩ := trodAll_cons hA
  obtain ⟨v1, vs1, d1, ds1, p1, q1, rfl, rfl, rfl, h1, r1⟩ := trodAll_cons r0
  obtain ⟨rfl, rfl, rfl⟩ := trodAll_nil r1
  obtain rfl : args = #[v0, v1] := by cases args; simp_all
  obtain ⟨rfl, rfl⟩ := trodVars_none hV
  obtain ⟨a0, rfl, rfl, rfl, w0⟩ := open_int Try.underlying5 (hval 0 5 v0 rfl rfl) h0
  obtain ⟨a1, rfl, rfl, rfl, w1⟩ := open_int Try.underlying5 (hval 1 5 v1 rfl rfl) h1
  clear hA0 hval0
  simp only [List.append_nil] at hW'
  refine (walk a0 a1 w0 w1 W).mono fun e W' ⟨he, hg⟩ => ?_
  subst he
  exact ⟨_, rfl, post_of_same (pa := []) (pv := []) hW' (fun _ _ _ => (trodAll_cons_mk (shut_bool Try.underlying4 _) trodAll_mk0)) (fun sp _ => (trodAll_cons_mk (shut_int Try.underlying5 w0) (trodAll_cons_mk (shut_int Try.underlying5 w1) trodAll_mk0))) (fun _ _ => rfl) rfl
    (hg.frame _) hg.2.1 (ok_one (by kernel_rfl) rfl (okWide_bool_mk Try.underlying4 _))⟩

theorem over : Rows.aluTurnsRow.holds Try.pinned (OpenSpec.ofChange Rows.aluTurnsSpec) :=
  OpenClaim.holds_of_wide 8 Try.f8 rfl rfl rfl rfl rfl rfl rfl ⟨rfl, rfl, rfl, rfl, rfl⟩ rfl rfl rfl rfl rfl (by kernel_rfl) Try.func8 (by kernel_rfl)
    (of_decide_eq_true (by kernel_rfl)) (by unfold Func.isWrapper; first | (rw [if_pos (by decide +kernel)]; kernel_rfl) | (rw [if_neg (by decide +kernel)]; exact ⟨rfl, rfl⟩))
    (fun os started H enc _ => lifted os started H enc)

/-- ████ THE STATEMENT ████ -/
theorem proved : Rows.AluTurnsSaid :=
  over
#print axioms proved
end Go.Proofs.Ytiodaonehbkgcaa.aluTurns
