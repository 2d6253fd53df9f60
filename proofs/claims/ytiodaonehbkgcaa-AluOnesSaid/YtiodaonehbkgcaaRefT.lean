/-
  What the document's answer for layer 1 returns for one more, one less, and bits: contracts of the calls, with no condition but that each argument fits its kind.
-/
import Derived.Test.YtiodaonehbkgcaaRefM
namespace Go.Proofs.Ytiodaonehbkgcaa
open Go.ChangeShapes Go.WideShapes Go.ChangeAt Go.RowKit
set_option linter.unusedVariables false
theorem i64_bd {a : Int} (h : (Lit.int .i64 a).wf = true) : -9223372036854775808 ≤ a ∧ a < 9223372036854775808 := by
  simp [Lit.wf, IntKind.min, IntKind.max, IntKind.bits, IntKind.signed] at h; omega
theorem kmod (k : Int) : (wrap64 (k.tmod 8 + 8)).tmod 8 = k % 8 := by
  have h : k.tmod 8 = if 0 ≤ k then k % 8 else -((-k) % 8) := by
    split
    · exact Int.tmod_eq_emod_of_nonneg (by assumption)
    · have e : k = -(-k) := by omega
      rw [e, Int.neg_tmod, Int.tmod_eq_emod_of_nonneg (by omega)]; simp
  have b : -8 < k.tmod 8 ∧ k.tmod 8 < 8 := by rw [h]; split <;> omega
  have e : wrap64 (k.tmod 8 + 8) = k.tmod 8 + 8 := by unfold wrap64; omega
  rw [e, Int.tmod_eq_emod_of_nonneg (by omega), h]
  split <;> omega
theorem bt_div (a : Int) (k : Nat) : bt a k = a / 2 ^ k % 2 := by
  have : ∀ k : Nat, sh a k = a / 2 ^ k := by
    intro k
    induction k with
    | zero => simp [sh]
    | succ k ih => show sh a k / 2 = _; rw [ih, Int.pow_succ, Int.ediv_ediv_of_nonneg (Int.le_of_lt (Int.pow_pos (by decide)))]
  unfold bt; rw [this]
theorem bitK_r (k a f : Int) (h1 : 0 ≤ a) (h2 : a < 256) (h3 : 0 ≤ f) (h4 : f < 256) (w : World) :
    Calls Try.prog 28 #[.int .i64 k, .int .u8 a, .int .u8 f] w fun e w' => e = .returned (.int .u8 (bitF k a f)) ∧ w = w' := by
  have hk := kmod k
  obtain ⟨n, hn⟩ : ∃ n : Nat, k % 8 = n := ⟨(k % 8).toNat, by omega⟩
  have hn8 : n < 8 := by omega
  have hb : Hid (bitF k a f = FL (bt a n == 0) false true (cf f)) := by
    show bitF k a f = _
    unfold bitF; rw [bt_div, hn]; rfl
  rw [hn] at hk
  clear hn
  go_enter Try.func28, Try.ntmps28
  go_wp2_with (first
    | (go_at_call 38; refine (bit_r _ _ (by omega) (by omega) (by omega) _).mono ?_; rintro e w' ⟨rfl, rfl⟩)
    | (go_at_call 42; refine (c_r _ (by omega) (by omega) _).mono ?_; rintro e w' ⟨rfl, rfl⟩)
    | (go_at_call 40; refine (flags_r _ _ _ _ _).mono ?_; rintro e w' ⟨rfl, rfl⟩))
  go_ret
  exact ⟨ret1 (by rw [hb.out]), rfl⟩
theorem hfFL (z n h c : Bool) : hf (FL z n h c) = h := by cases z <;> cases n <;> cases h <;> cases c <;> kernel_rfl
theorem inc_h (a : Int) : hf (addF a 1 false) = (a % 16 == 15) := by
  unfold addF; rw [hfFL, Bool.eq_iff_iff]; simp [fl]; omega
theorem dec_h (a : Int) : hf (subF a 1 false) = (a % 16 == 0) := by
  unfold subF; rw [hfFL, Bool.eq_iff_iff]; simp [fl]; omega
theorem inc_r (a f : Int) (h1 : 0 ≤ a) (h2 : a < 256) (h3 : 0 ≤ f) (h4 : f < 256) (w : World) :
    Calls Try.prog 20 #[.int .u8 a, .int .u8 f] w fun e w' => e = .returned (.tuple #[.int .u8 ((a + 1) % 256), .int .u8 (incF a f)]) ∧ Below w.heap.size w w' := by
  have e1 : addR a 1 false = (a + 1) % 256 := by unfold addR fl; simp
  have e2 := Lib.hid (inc_h a)
  have e3 := addF_bd a 1 false
  go_enter Try.func20, Try.ntmps20
  go_wp2_with (first
    | (go_at_call 12; refine (add_r' _ _ _ (by omega) (by omega) (by omega) (by omega) _).mono ?_; rintro e w' ⟨rfl, hb⟩; have HB := Lib.hid hb; clear hb)
    | (go_at_call 41; refine (h_r _ (by omega) (by omega) _).mono ?_; rintro e w' ⟨rfl, rfl⟩)
    | (go_at_call 42; refine (c_r _ (by omega) (by omega) _).mono ?_; rintro e w' ⟨rfl, rfl⟩)
    | (go_at_call 40; refine (flags_r _ _ _ _ _).mono ?_; rintro e w' ⟨rfl, rfl⟩))
  go_ret2
  exact ⟨ret2 rfl (by rw [e2.out]; rfl), HB.out⟩
theorem dec_r (a f : Int) (h1 : 0 ≤ a) (h2 : a < 256) (h3 : 0 ≤ f) (h4 : f < 256) (w : World) :
    Calls Try.prog 22 #[.int .u8 a, .int .u8 f] w fun e w' => e = .returned (.tuple #[.int .u8 ((a - 1) % 256), .int .u8 (decF a f)]) ∧ Below w.heap.size w w' := by
  have e1 : subR a 1 false = (a - 1) % 256 := by unfold subR fl; simp
  have e2 := Lib.hid (dec_h a)
  have e3 := subF_bd a 1 false
  go_enter Try.func22, Try.ntmps22
  go_wp2_with (first
    | (go_at_call 14; refine (sub_r' _ _ _ (by omega) (by omega) (by omega) (by omega) _).mono ?_; rintro e w' ⟨rfl, hb⟩; have HB := Lib.hid hb; clear hb)
    | (go_at_call 41; refine (h_r _ (by omega) (by omega) _).mono ?_; rintro e w' ⟨rfl, rfl⟩)
    | (go_at_call 42; refine (c_r _ (by omega) (by omega) _).mono ?_; rintro e w' ⟨rfl, rfl⟩)
    | (go_at_call 40; refine (flags_r _ _ _ _ _).mono ?_; rintro e w' ⟨rfl, rfl⟩))
  go_ret2
  exact ⟨ret2 rfl (by rw [e2.out]; rfl), HB.out⟩
end Go.Proofs.Ytiodaonehbkgcaa
