/-
  Plain numbers for the laws of layer 1: what fits a kind, and what sums and differences are to each other; no condition.
-/
import Derived.Test.YtngdogldgcgnjaaGreatAlu
namespace Go.Proofs.YtngdogldgcgnjaaGreat.Alu
open Go.ChangeShapes Go.WideShapes Go.ChangeAt Go.RowKit
theorem u8_bd {a : Int} (h : (Lit.int .u8 a).wf = true) : 0 ≤ a ∧ a < 256 := by
  simp [Lit.wf, IntKind.min, IntKind.max, IntKind.bits, IntKind.signed] at h; omega
theorem u16_bd {a : Int} (h : (Lit.int .u16 a).wf = true) : 0 ≤ a ∧ a < 65536 := by
  simp [Lit.wf, IntKind.min, IntKind.max, IntKind.bits, IntKind.signed] at h; omega
theorem addR_bd (a b : Int) (c : Bool) : 0 ≤ addR a b c ∧ addR a b c < 256 := by unfold addR; omega
theorem subR_bd (a b : Int) (c : Bool) : 0 ≤ subR a b c ∧ subR a b c < 256 := by unfold subR; omega
theorem FL_b (z n h c : Bool) : 0 ≤ FL z n h c ∧ FL z n h c < 256 := by have := FL_bd z n h c; omega
theorem addF_bd (a b : Int) (c : Bool) : 0 ≤ addF a b c ∧ addF a b c < 256 := FL_b _ _ _ _
theorem subF_bd (a b : Int) (c : Bool) : 0 ≤ subF a b c ∧ subF a b c < 256 := FL_b _ _ _ _
theorem subR_addR (a b : Int) (c : Bool) (h1 : 0 ≤ a) (h2 : a < 256) : subR (addR a b c) b c = a := by unfold subR addR; omega
theorem FL_c (z n h c : Bool) : bits .and .u8 (FL z n h c) 16 = fl 16 c := by cases z <;> cases n <;> cases h <;> cases c <;> kernel_rfl
theorem FL_h (z n h c : Bool) : bits .and .u8 (FL z n h c) 32 = fl 32 h := by cases z <;> cases n <;> cases h <;> cases c <;> kernel_rfl
theorem back_c (a b : Int) (c : Bool) (h1 : 0 ≤ a) (h2 : a < 256) (h3 : 0 ≤ b) (h4 : b < 256) :
    bits .and .u8 (addF a b c) 16 = bits .and .u8 (subF (addR a b c) b c) 16 := by
  unfold addF subF
  rw [FL_c, FL_c]
  refine congrArg (fl 16) ?_
  have := fl_bd 1 (by decide) c
  unfold addR
  rw [Bool.eq_iff_iff]; simp; omega
theorem back_h (a b : Int) (c : Bool) :
    bits .and .u8 (addF a b c) 32 = bits .and .u8 (subF (addR a b c) b c) 32 := by
  unfold addF subF
  rw [FL_h, FL_h]
  refine congrArg (fl 32) ?_
  have := fl_bd 1 (by decide) c
  unfold addR
  rw [Bool.eq_iff_iff]; simp; omega
theorem subF_self (a : Int) : subF a a false = 192 := by
  have e : subR a a false = 0 := by unfold subR fl; simp
  unfold subF; rw [e]; simp [fl, FL]
theorem xor_self (a : Int) (h1 : 0 ≤ a) (h2 : a < 256) : bits .xor .u8 a a = 0 :=
  byte_all (P := fun a => bits .xor .u8 a a = 0) (by decide +kernel) a h1 h2
end Go.Proofs.YtngdogldgcgnjaaGreat.Alu
