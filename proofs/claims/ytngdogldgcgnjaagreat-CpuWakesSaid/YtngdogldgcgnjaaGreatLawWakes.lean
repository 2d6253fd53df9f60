/-
  Proved: for every input the law CpuWakes returns true (Rows.CpuWakesSaid), with no condition.
-/
import Derived.Test.YtngdogldgcgnjaaGreatL5a
import Derived.Test.YtngdogldgcgnjaaGreatL5c
import Derived.Test.YtngdogldgcgnjaaGreatL5d
import Derived.WalkKit
import Derived.ProofKit
import Derived.OpenShut
import Derived.Test.YtngdogldgcgnjaaGreatOpen
namespace Go.Proofs.YtngdogldgcgnjaaGreat.cpuWakes
open Go.ChangeShapes Go.WideShapes Go.ChangeAt Go.RowKit
set_option linter.unusedVariables false

theorem low_cases (T : Int) : lowV T = 0 ∨ lowV T = 1 ∨ lowV T = 2 ∨ lowV T = 3 ∨ lowV T = 4 := by
  unfold lowV
  split; simp
  split; simp
  split; simp
  split <;> simp
theorem walk (s : St) (ok : s.r.ok) (fl le : Int) (f0 : 0 ≤ fl) (f1 : fl < 256) (l0 : 0 ≤ le) (l1 : le < 256) (stop : Bool) (w : World) : Calls Tryz.prog 5 #[.agg #[.int .u8 s.r.a, .int .u8 s.r.f, .int .u8 s.r.b, .int .u8 s.r.c, .int .u8 s.r.d, .int .u8 s.r.e, .int .u8 s.r.h, .int .u8 s.r.l, .int .u16 s.r.sp, .int .u16 s.r.pc, .bool s.ime, .bool s.soon, .bool s.halt, .bool s.stop], .int .u8 fl, .int .u8 le, .bool stop] w fun e w' => e = .returned (.bool true) ∧ Below w.heap.size w w' := by
  by_cases h1 : stop = true
  · exact wakes_ab s ok fl le f0 f1 l0 l1 stop (Or.inl h1) w
  · by_cases h2 : thereV fl le = 0
    · exact wakes_ab s ok fl le f0 f1 l0 l1 stop (Or.inr (Or.inl h2)) w
    · by_cases h3 : s.ime = false
      · exact wakes_ab s ok fl le f0 f1 l0 l1 stop (Or.inr (Or.inr h3)) w
      · have e1 : stop = false := by simpa using h1
        have e3 : s.ime = true := by simpa using h3
        rcases low_cases (thereV fl le) with hl | hl | hl | hl | hl
        · exact wakes_c0 s ok fl le f0 f1 l0 l1 stop e1 h2 e3 hl w
        · exact wakes_c1 s ok fl le f0 f1 l0 l1 stop e1 h2 e3 hl w
        · exact wakes_c2 s ok fl le f0 f1 l0 l1 stop e1 h2 e3 hl w
        · exact wakes_c3 s ok fl le f0 f1 l0 l1 stop e1 h2 e3 hl w
        · exact wakes_c4 s ok fl le f0 f1 l0 l1 stop e1 h2 e3 hl w
set_option maxRecDepth 100000 in
theorem lifted (os : Os) (started : os.Started) (H : Type) (enc : TypeId × Value → H) :
    ReturnsInHanded {} Tryz.checked os 5 .any (Rows.cpuWakesSpec.pre6 enc Tryz.prog Tryz.f5 Rows.cpuWakesRow.domain false) (Rows.cpuWakesSpec.post enc Tryz.prog Tryz.f5 false true false false) := by
  refine returnsInHanded_of_change (C := Tryz.checked) own started (by kernel_rfl) Tryz.func5
    (ChangeSpec.witness6 (enc := enc) (C := Tryz.checked) false ⟨#[], #[.agg #[.int .u8 0, .int .u8 0, .int .u8 0, .int .u8 0, .int .u8 0, .int .u8 0, .int .u8 0, .int .u8 0, .int .u16 0, .int .u16 0, .bool false, .bool false, .bool false, .bool false], .int .u8 0, .int .u8 0, .bool false], []⟩ 8 (by kernel_rfl) (by kernel_rfl) (by kernel_rfl) (by kernel_rfl)) ?_
  intro W base args ds gs before hval0 hW hcnd _
  have hval : ∀ (j : Nat) t v, Tryz.f5.params[j]? = some t → args[j]? = some v → Value.okWide Tryz.prog W .any base t v := hval0
  have hW' := hW
  obtain ⟨p, q, hA0, hV, rfl, hfz, hnd⟩ := hW
  have hA : DataW.TrodAll enc Tryz.prog W 0 (fun _ => true) true Tryz.f5.params.toList args.toList ds p := hA0
  rw [Tryz.params5] at hA hval
  obtain ⟨v0, vs0, d0, ds0, p0, q0, hargs, rfl, rfl, h0, r0'⟩ := trodAll_cons hA
  obtain ⟨v1, vs1, d1, ds1, p1, q1, rfl, rfl, rfl, h1, r1'⟩ := trodAll_cons r0'
  obtain ⟨v2, vs2, d2, ds2, p2, q2, rfl, rfl, rfl, h2, r2'⟩ := trodAll_cons r1'
  obtain ⟨v3, vs3, d3, ds3, p3, q3, rfl, rfl, rfl, h3, r3'⟩ := trodAll_cons r2'
  obtain ⟨rfl, rfl, rfl⟩ := trodAll_nil r3'
  obtain rfl : args = #[v0, v1, v2, v3] := by cases args; simp_all
  obtain ⟨rfl, rfl⟩ := trodVars_none hV
  obtain ⟨s0, ok0, rfl⟩ := open_st (hval 0 26 v0 rfl rfl) h0
  obtain ⟨a1, rfl, rfl, rfl, w1⟩ := open_int Tryz.underlying5 (hval 1 5 v1 rfl rfl) h1
  obtain ⟨a2, rfl, rfl, rfl, w2⟩ := open_int Tryz.underlying5 (hval 2 5 v2 rfl rfl) h2
  obtain ⟨a3, rfl, rfl, rfl⟩ := open_bool Tryz.underlying4 (hval 3 4 v3 rfl rfl) h3
  clear hA0 hval0
  refine (walk s0 ok0 a1 a2 (u8_bd w1).1 (u8_bd w1).2 (u8_bd w2).1 (u8_bd w2).2 a3 W).mono fun e W' ⟨he, hg⟩ => ?_
  subst he
  exact ⟨_, rfl, law_post laidOut hW' rfl rfl rfl (trodAll_cons_mk (shut_bool Tryz.underlying4 _) trodAll_mk0)
    (fun t ht => by rw [Tryz.params5] at ht; simp at ht; rcases ht with rfl | rfl | rfl <;> exact ⟨by kernel_rfl, of_decide_eq_true (by kernel_rfl)⟩) hg⟩

theorem over : Rows.cpuWakesRow.holds Tryz.pinned (OpenSpec.ofChange Rows.cpuWakesSpec) :=
  OpenClaim.holds_of_wide 5 Tryz.f5 rfl rfl rfl rfl rfl rfl rfl ⟨rfl, rfl, rfl, rfl, rfl⟩ rfl rfl rfl rfl rfl (by kernel_rfl) Tryz.func5 (by kernel_rfl)
    (of_decide_eq_true (by kernel_rfl)) (by unfold Func.isWrapper; first | (rw [if_pos (by decide +kernel)]; kernel_rfl) | (rw [if_neg (by decide +kernel)]; exact ⟨rfl, rfl⟩))
    (fun os started H enc _ => lifted os started H enc)

/-- The statement. -/
theorem proved : Rows.CpuWakesSaid :=
  over
#print axioms proved
end Go.Proofs.YtngdogldgcgnjaaGreat.cpuWakes
