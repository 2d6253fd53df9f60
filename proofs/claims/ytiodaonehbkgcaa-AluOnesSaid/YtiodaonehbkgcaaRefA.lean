/-
  What the document's answer for layer 1 returns where it has no loop: contracts of the calls, with no condition but that each argument fits its kind.
-/
import Derived.Test.YtiodaonehbkgcaaAlu
namespace Go.Proofs.Ytiodaonehbkgcaa
open Go.ChangeShapes Go.WideShapes Go.ChangeAt Go.RowKit

theorem flags_r (z n h c : Bool) (w : World) :
    Calls Try.prog 40 #[.bool z, .bool n, .bool h, .bool c] w fun e w' => e = .returned (.int .u8 (FL z n h c)) ∧ w = w' := by
  cases z <;> cases n <;> cases h <;> cases c
  all_goals
    go_enter Try.func40, Try.ntmps40
    go_wp2
    go_ret
    exact ⟨rfl, rfl⟩

theorem one_r (c : Bool) (w : World) :
    Calls Try.prog 37 #[.bool c] w fun e w' => e = .returned (.int .i64 (fl 1 c)) ∧ w = w' := by
  cases c
  all_goals
    go_enter Try.func37, Try.ntmps37
    go_wp2
    go_ret
    exact ⟨rfl, rfl⟩

theorem retb {a a' : Bool} (h : a = a') : Ending.returned (.bool a) = .returned (.bool a') := by rw [h]

theorem byte_z (f : Int) (h1 : 0 ≤ f) (h2 : f < 256) : (f / 128 == 1) = zf f :=
  byte_all (P := fun f => (f / 128 == 1) = zf f) (by decide +kernel) f h1 h2
theorem z_r (f : Int) (h1 : 0 ≤ f) (h2 : f < 256) (w : World) :
    Calls Try.prog 45 #[.int .u8 f] w fun e w' => e = .returned (.bool (zf f)) ∧ w = w' := by
  go_enter Try.func45, Try.ntmps45
  go_wp2
  go_ret
  refine ⟨retb ?_, rfl⟩
  first | exact byte_z f h1 h2 | rfl
theorem n_r (f : Int) (h1 : 0 ≤ f) (h2 : f < 256) (w : World) :
    Calls Try.prog 44 #[.int .u8 f] w fun e w' => e = .returned (.bool (nf f)) ∧ w = w' := by
  go_enter Try.func44, Try.ntmps44
  go_wp2
  go_ret
  refine ⟨retb ?_, rfl⟩
  first | exact byte_z f h1 h2 | rfl
theorem h_r (f : Int) (h1 : 0 ≤ f) (h2 : f < 256) (w : World) :
    Calls Try.prog 41 #[.int .u8 f] w fun e w' => e = .returned (.bool (hf f)) ∧ w = w' := by
  go_enter Try.func41, Try.ntmps41
  go_wp2
  go_ret
  refine ⟨retb ?_, rfl⟩
  first | exact byte_z f h1 h2 | rfl
theorem c_r (f : Int) (h1 : 0 ≤ f) (h2 : f < 256) (w : World) :
    Calls Try.prog 42 #[.int .u8 f] w fun e w' => e = .returned (.bool (cf f)) ∧ w = w' := by
  go_enter Try.func42, Try.ntmps42
  go_wp2
  go_ret
  refine ⟨retb ?_, rfl⟩
  first | exact byte_z f h1 h2 | rfl

theorem add16_r (a b f : Int) (h1 : 0 ≤ a) (h2 : a < 65536) (h3 : 0 ≤ b) (h4 : b < 65536) (h5 : 0 ≤ f) (h6 : f < 256) (w : World) :
    Calls Try.prog 30 #[.int .u16 a, .int .u16 b, .int .u8 f] w fun e w' => e = .returned (.tuple #[.int .u16 ((a + b) % 65536), .int .u8 (add16F a b f)]) ∧ w = w' := by
  go_enter Try.func30, Try.ntmps30
  go_wp2_with (first | (go_at_call 45; refine (z_r _ (by omega) (by omega) _).mono ?_; rintro e w' ⟨rfl, rfl⟩) | (go_at_call 40; refine (flags_r _ _ _ _ _).mono ?_; rintro e w' ⟨rfl, rfl⟩))
  go_ret2
  exact ⟨rfl, rfl⟩

theorem shift16_r (a e : Int) (h1 : 0 ≤ a) (h2 : a < 65536) (h3 : 0 ≤ e) (h4 : e < 256) (w : World) :
    Calls Try.prog 32 #[.int .u16 a, .int .u8 e] w fun v w' => v = .returned (.tuple #[.int .u16 (shiftR a e), .int .u8 (shiftF a e)]) ∧ w = w' := by
  by_cases hs : 127 < e
  all_goals
    go_enter Try.func32, Try.ntmps32
    go_wp2_with ((go_at_call 40; refine (flags_r _ _ _ _ _).mono ?_; rintro e w' ⟨rfl, rfl⟩))
    go_ret2
    refine ⟨ret2 ?_ rfl, rfl⟩
    unfold shiftR signed
    split <;> omega

theorem daa_val (a f : Int) (n h c t l : Bool) (hn : nf f = n) (hh : hf f = h) (hc : cf f = c) (ht : decide (153 < a) = t) (hl : decide (9 < a % 16) = l) :
    daaR a f = (a + 512 + (bif n then -(fl 6 h + fl 96 c) else fl 6 (h || l) + fl 96 (c || t))) % 256 ∧
    daaF a f = FL ((a + 512 + (bif n then -(fl 6 h + fl 96 c) else fl 6 (h || l) + fl 96 (c || t))) % 256 == 0) n false (c || (!n && t)) := by
  have e : daaR a f = (a + 512 + (bif n then -(fl 6 h + fl 96 c) else fl 6 (h || l) + fl 96 (c || t))) % 256 := by
    unfold daaR; rw [hn, hh, hc, ht, hl]; cases n <;> simp only [cond_true, cond_false] <;> omega
  refine ⟨e, ?_⟩
  unfold daaF; rw [e, hn, hc, ht]

set_option maxHeartbeats 2000000 in
theorem daa_r (a f : Int) (h1 : 0 ≤ a) (h2 : a < 256) (h3 : 0 ≤ f) (h4 : f < 256) (w : World) :
    Calls Try.prog 24 #[.int .u8 a, .int .u8 f] w fun e w' => e = .returned (.tuple #[.int .u8 (daaR a f), .int .u8 (daaF a f)]) ∧ w = w' := by
  by_cases ht : 153 < a
  all_goals
   by_cases hl : 9 < a % 16
   all_goals
    cases hn : nf f <;> cases hh : hf f <;> cases hc : cf f
    all_goals
      have hv := Lib.hid (daa_val a f _ _ _ _ _ hn hh hc (by first | exact decide_eq_true ht | exact decide_eq_false ht) (by first | exact decide_eq_true hl | exact decide_eq_false hl))
      go_enter Try.func24, Try.ntmps24
      go_wp2_with (first | (go_at_call 40; refine (flags_r _ _ _ _ _).mono ?_; rintro e w' ⟨rfl, rfl⟩) | (go_at_call 44; refine (n_r _ (by omega) (by omega) _).mono ?_; rintro e w' ⟨rfl, rfl⟩) | (go_at_call 41; refine (h_r _ (by omega) (by omega) _).mono ?_; rintro e w' ⟨rfl, rfl⟩) | (go_at_call 42; refine (c_r _ (by omega) (by omega) _).mono ?_; rintro e w' ⟨rfl, rfl⟩))
      go_ret2
      refine ⟨ret2 ?_ ?_, rfl⟩
      · rw [hv.out.1]
        refine congrArg (· % 256) ?_
        simp only [fl, cond_true, cond_false, Bool.or_true, Bool.or_false]; omega
      · rw [hv.out.2]
        refine congrArg (fun x => FL (x % 256 == 0) _ _ _) ?_
        simp only [fl, cond_true, cond_false, Bool.or_true, Bool.or_false]; omega
end Go.Proofs.Ytiodaonehbkgcaa
