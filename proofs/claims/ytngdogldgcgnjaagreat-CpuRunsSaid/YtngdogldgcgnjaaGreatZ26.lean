/-
  What the document's own functions of layer 2 return, for every set of registers and every number: contracts of the calls, with no condition but that each argument fits its kind.
  (Some texts in one.)
-/
import Derived.Test.YtngdogldgcgnjaaGreatZ01
import Derived.Test.YtngdogldgcgnjaaGreatZ00
import Derived.Test.YtngdogldgcgnjaaGreatZ11
import Derived.Deep.QuietTactic
import Derived.BigQuiet
set_option maxRecDepth 100000
set_option maxHeartbeats 8000000
namespace Go.Proofs.YtngdogldgcgnjaaGreat.Reg
open Go.ChangeShapes Go.WideShapes Go.ChangeAt Go.RowKit
theorem get_r (r : RR) (n : Int) (w : World) :
  Calls Tryz.prog 60 #[.agg #[.int .u8 r.a, .int .u8 r.f, .int .u8 r.b, .int .u8 r.c, .int .u8 r.d, .int .u8 r.e, .int .u8 r.h, .int .u8 r.l, .int .u16 r.sp, .int .u16 r.pc], .int .i64 n] w fun e w' => e = .returned (.tuple #[.int .u8 (getV r n), .int .i64 (getE n)]) ∧ Below w.heap.size w w' := by
 have hB : ∀ (o : Obj), Below w.heap.size w (w.alloc o) := fun o => (Below.refl _ _).alloc (Nat.le_refl _) _
 have HB := Lib.hid hB; clear hB
 by_cases hn : n = 0 ∨ n = 1 ∨ n = 2 ∨ n = 3 ∨ n = 4 ∨ n = 5 ∨ n = 7
 ·rcases hn with rfl | rfl | rfl | rfl | rfl | rfl | rfl
  all_goals
   go_enter Tryz.func60, Tryz.ntmps60; go_wp2
   go_ret2
   exact ⟨rfl, HB.out _⟩
 ·have e : getV r n = 0 := by unfold getV; rw [if_neg (by omega), if_neg (by omega), if_neg (by omega), if_neg (by omega), if_neg (by omega), if_neg (by omega), if_neg (by omega)]
  have e' : getE n = 1 := by unfold getE; rw [if_neg hn]
  obtain ⟨m0, m1, m2, m3, m4, m5, m7⟩ : n ≠ 0 ∧ n ≠ 1 ∧ n ≠ 2 ∧ n ≠ 3 ∧ n ≠ 4 ∧ n ≠ 5 ∧ n ≠ 7 := by omega
  rw [e, e']; clear e e' hn; go_enter Tryz.func60, Tryz.ntmps60; go_wp2
  go_ret2
  exact ⟨rfl, HB.out _⟩
theorem set_r (r : RR) (n x : Int) (w : World) :
  Calls Tryz.prog 59 #[.agg #[.int .u8 r.a, .int .u8 r.f, .int .u8 r.b, .int .u8 r.c, .int .u8 r.d, .int .u8 r.e, .int .u8 r.h, .int .u8 r.l, .int .u16 r.sp, .int .u16 r.pc], .int .i64 n, .int .u8 x] w fun e w' => e = .returned (.tuple #[.agg #[.int .u8 (setR r n x).a, .int .u8 (setR r n x).f, .int .u8 (setR r n x).b, .int .u8 (setR r n x).c, .int .u8 (setR r n x).d, .int .u8 (setR r n x).e, .int .u8 (setR r n x).h, .int .u8 (setR r n x).l, .int .u16 (setR r n x).sp, .int .u16 (setR r n x).pc], .int .i64 (getE n)]) ∧ Below w.heap.size w w' := by
 by_cases hn : n = 0 ∨ n = 1 ∨ n = 2 ∨ n = 3 ∨ n = 4 ∨ n = 5 ∨ n = 7
 ·rcases hn with rfl | rfl | rfl | rfl | rfl | rfl | rfl
  all_goals
   go_enter Tryz.func59, Tryz.ntmps59; go_wp2
   refine bodyPost_ret (v := _) ?_ rfl ⟨rfl, ?_⟩
   ·simp [results, Tryz.results59, go_sem, setR, getE]
   ·exact ((Below.refl _ _).alloc (Nat.le_refl _) _).alloc (by simp) _
 ·have e : setR r n x = noR := by unfold setR; rw [if_neg (by omega), if_neg (by omega), if_neg (by omega), if_neg (by omega), if_neg (by omega), if_neg (by omega), if_neg (by omega)]
  have e' : getE n = 1 := by unfold getE; rw [if_neg hn]
  obtain ⟨m0, m1, m2, m3, m4, m5, m7⟩ : n ≠ 0 ∧ n ≠ 1 ∧ n ≠ 2 ∧ n ≠ 3 ∧ n ≠ 4 ∧ n ≠ 5 ∧ n ≠ 7 := by omega
  rw [e, e']; clear e e' hn; go_enter Tryz.func59, Tryz.ntmps59; go_wp2
  refine bodyPost_ret (v := _) ?_ rfl ⟨rfl, ?_⟩
  ·simp [results, Tryz.results59, go_sem, noR]
  ·exact ((Below.refl _ _).alloc (Nat.le_refl _) _).alloc (by simp) _
theorem pair_r (r : RR) (n : Int) (ok : r.ok) (w : World) :
  Calls Tryz.prog 58 #[.agg #[.int .u8 r.a, .int .u8 r.f, .int .u8 r.b, .int .u8 r.c, .int .u8 r.d, .int .u8 r.e, .int .u8 r.h, .int .u8 r.l, .int .u16 r.sp, .int .u16 r.pc], .int .i64 n] w fun e w' => e = .returned (.tuple #[.int .u16 (pairV r n), .int .i64 (pairE n)]) ∧ Below w.heap.size w w' := by
 have hB : ∀ (o : Obj), Below w.heap.size w (w.alloc o) := fun o => (Below.refl _ _).alloc (Nat.le_refl _) _
 have HB := Lib.hid hB; clear hB; obtain ⟨⟨a1, a2⟩, ⟨f1, f2⟩, ⟨b1, b2⟩, ⟨c1, c2⟩, ⟨d1, d2⟩, ⟨e1, e2⟩, ⟨h1, h2⟩, ⟨l1, l2⟩, _⟩ := ok; have E4 := Lib.hid (low4 r.f f1 f2)
 by_cases hn : n = 0 ∨ n = 1 ∨ n = 2 ∨ n = 3
 ·rcases hn with rfl | rfl | rfl | rfl
  all_goals
   go_enter Tryz.func58, Tryz.ntmps58
   go_wp2_with (go_at_call 69; (with_reducible refine (word_r _ _ _ (by omega) (by omega) (by omega) (by omega)).mono ?_); rintro e w' ⟨rfl, rfl⟩)
   go_ret2
   exact ⟨rfl, HB.out _⟩
 by_cases n4 : n = 4
 ·subst n4
  clear hn; go_enter Tryz.func58, Tryz.ntmps58; go_wp2_with fail
  refine (word_r _ _ _ (by omega) (by omega) (by omega) (by omega)).mono ?_
  rintro e w' ⟨rfl, rfl⟩; go_wp2
  go_ret2
  exact ⟨rfl, HB.out _⟩
 have e : pairV r n = 0 := by unfold pairV; rw [if_neg (by omega), if_neg (by omega), if_neg (by omega), if_neg (by omega), if_neg (by omega)]
 have e' : pairE n = 1 := by unfold pairE; rw [if_neg (by omega)]
 obtain ⟨m0, m1, m2, m3⟩ : n ≠ 0 ∧ n ≠ 1 ∧ n ≠ 2 ∧ n ≠ 3 := by omega
 rw [e, e']; clear e e' hn; go_enter Tryz.func58, Tryz.ntmps58; go_wp2
 go_ret2
 exact ⟨rfl, HB.out _⟩
theorem setPair_r (r : RR) (n x : Int) (h1 : 0 ≤ x) (h2 : x < 65536) (w : World) :
  Calls Tryz.prog 38 #[.agg #[.int .u8 r.a, .int .u8 r.f, .int .u8 r.b, .int .u8 r.c, .int .u8 r.d, .int .u8 r.e, .int .u8 r.h, .int .u8 r.l, .int .u16 r.sp, .int .u16 r.pc], .int .i64 n, .int .u16 x] w fun e w' => e = .returned (.tuple #[.agg #[.int .u8 (setP r n x).a, .int .u8 (setP r n x).f, .int .u8 (setP r n x).b, .int .u8 (setP r n x).c, .int .u8 (setP r n x).d, .int .u8 (setP r n x).e, .int .u8 (setP r n x).h, .int .u8 (setP r n x).l, .int .u16 (setP r n x).sp, .int .u16 (setP r n x).pc], .int .i64 (pairE n)]) ∧ Below w.heap.size w w' := by
 have E5 := Lib.hid (show IntKind.u16.wrap (x.tdiv 256) % 256 = x / 256 by rw [IntKind.wrap_u16, Int.tdiv_eq_ediv_of_nonneg h1]; omega)
 by_cases hn : n = 0 ∨ n = 1 ∨ n = 2 ∨ n = 3 ∨ n = 4
 ·rcases hn with rfl | rfl | rfl | rfl | rfl
  all_goals
   go_enter Tryz.func38, Tryz.ntmps38; go_wp2
   refine bodyPost_ret (v := _) ?_ rfl ⟨rfl, ?_⟩
   ·simp [results, Tryz.results38, go_sem, setP, pairE, E5.out]
   ·exact ((Below.refl _ _).alloc (Nat.le_refl _) _).alloc (by simp) _
 have e : setP r n x = noR := by unfold setP; rw [if_neg (by omega), if_neg (by omega), if_neg (by omega), if_neg (by omega), if_neg (by omega)]
 have e' : pairE n = 1 := by unfold pairE; rw [if_neg (by omega)]
 obtain ⟨m0, m1, m2, m3, m4⟩ : n ≠ 0 ∧ n ≠ 1 ∧ n ≠ 2 ∧ n ≠ 3 ∧ n ≠ 4 := by omega
 rw [e, e']; clear e e' hn; go_enter Tryz.func38, Tryz.ntmps38; go_wp2
 refine bodyPost_ret (v := _) ?_ rfl ⟨rfl, ?_⟩
 ·simp [results, Tryz.results38, go_sem, noR]
 ·exact ((Below.refl _ _).alloc (Nat.le_refl _) _).alloc (by simp) _
theorem is_r (r : RR) (n : Int) (h1 : 0 ≤ r.f) (h2 : r.f < 256) (w : World) :
  Calls Tryz.prog 35 #[.agg #[.int .u8 r.a, .int .u8 r.f, .int .u8 r.b, .int .u8 r.c, .int .u8 r.d, .int .u8 r.e, .int .u8 r.h, .int .u8 r.l, .int .u16 r.sp, .int .u16 r.pc], .int .i64 n] w fun e w' => e = .returned (.bool (isV r n)) ∧ Below w.heap.size w w' := by
 have hB : ∀ (o : Obj), Below w.heap.size w (w.alloc o).drew := fun o => ((Below.refl _ _).alloc (Nat.le_refl _) _).drew
 have HB := Lib.hid hB; clear hB
 by_cases hn : n = 0 ∨ n = 1 ∨ n = 2 ∨ n = 3
 ·rcases hn with rfl | rfl | rfl | rfl
  all_goals
   go_enter Tryz.func35, Tryz.ntmps35; go_wp2
   go_region
   go_wp2
   all_goals
    go_ret
    refine ⟨?_, HB.out _⟩
    simp_all [isV]
 obtain ⟨m0, m1, m2, m3⟩ : n ≠ 0 ∧ n ≠ 1 ∧ n ≠ 2 ∧ n ≠ 3 := by omega
 have e4 : isV r n = (n == 4) := by unfold isV; rw [if_neg m0, if_neg m1, if_neg m2, if_neg m3]
 rw [e4]; clear e4 hn; go_enter Tryz.func35, Tryz.ntmps35; go_wp2
 go_region
 go_wp2
 all_goals
  go_ret
  exact ⟨rfl, HB.out _⟩
end Go.Proofs.YtngdogldgcgnjaaGreat.Reg
namespace Go.Proofs.YtngdogldgcgnjaaGreat.Alu
open Go.ChangeShapes Go.WideShapes Go.ChangeAt Go.RowKit
theorem flags_r (z n h c : Bool) (w : World) :
    Calls Tryz.prog 45 #[.bool z, .bool n, .bool h, .bool c] w fun e w' => e = .returned (.int .u8 (FL z n h c)) ∧ w = w' := by
  cases z <;> cases n <;> cases h <;> cases c
  all_goals
    go_enter Tryz.func45, Tryz.ntmps45; go_wp2; go_ret
    exact ⟨rfl, rfl⟩
theorem one_r (c : Bool) (w : World) :
    Calls Tryz.prog 66 #[.bool c] w fun e w' => e = .returned (.int .i64 (fl 1 c)) ∧ w = w' := by
  cases c
  all_goals
    go_enter Tryz.func66, Tryz.ntmps66; go_wp2; go_ret
    exact ⟨rfl, rfl⟩
theorem retb {a a' : Bool} (h : a = a') : Ending.returned (.bool a) = .returned (.bool a') := by rw [h]
theorem byte_z (f : Int) (h1 : 0 ≤ f) (h2 : f < 256) : (f / 128 == 1) = zf f :=
  byte_all (P := fun f => (f / 128 == 1) = zf f) (by decide +kernel) f h1 h2
theorem z_r (f : Int) (h1 : 0 ≤ f) (h2 : f < 256) (w : World) :
    Calls Tryz.prog 33 #[.int .u8 f] w fun e w' => e = .returned (.bool (zf f)) ∧ w = w' := by
  go_enter Tryz.func33, Tryz.ntmps33; go_wp2; go_ret
  refine ⟨retb ?_, rfl⟩
  first | exact byte_z f h1 h2 | rfl
theorem n_r (f : Int) (h1 : 0 ≤ f) (h2 : f < 256) (w : World) :
    Calls Tryz.prog 68 #[.int .u8 f] w fun e w' => e = .returned (.bool (nf f)) ∧ w = w' := by
  go_enter Tryz.func68, Tryz.ntmps68; go_wp2; go_ret
  refine ⟨retb ?_, rfl⟩
  first | exact byte_z f h1 h2 | rfl
theorem h_r (f : Int) (h1 : 0 ≤ f) (h2 : f < 256) (w : World) :
    Calls Tryz.prog 64 #[.int .u8 f] w fun e w' => e = .returned (.bool (hf f)) ∧ w = w' := by
  go_enter Tryz.func64, Tryz.ntmps64; go_wp2; go_ret
  refine ⟨retb ?_, rfl⟩
  first | exact byte_z f h1 h2 | rfl
theorem c_r (f : Int) (h1 : 0 ≤ f) (h2 : f < 256) (w : World) :
    Calls Tryz.prog 34 #[.int .u8 f] w fun e w' => e = .returned (.bool (cf f)) ∧ w = w' := by
  go_enter Tryz.func34, Tryz.ntmps34; go_wp2; go_ret
  refine ⟨retb ?_, rfl⟩
  first | exact byte_z f h1 h2 | rfl
theorem add16_r (a b f : Int) (h1 : 0 ≤ a) (h2 : a < 65536) (h3 : 0 ≤ b) (h4 : b < 65536) (h5 : 0 ≤ f) (h6 : f < 256) (w : World) :
    Calls Tryz.prog 43 #[.int .u16 a, .int .u16 b, .int .u8 f] w fun e w' => e = .returned (.tuple #[.int .u16 ((a + b) % 65536), .int .u8 (add16F a b f)]) ∧ w = w' := by
  go_enter Tryz.func43, Tryz.ntmps43
  go_wp2_with (first | (go_at_call 33; refine (z_r _ (by omega) (by omega) _).mono ?_; rintro e w' ⟨rfl, rfl⟩) | (go_at_call 45; refine (flags_r _ _ _ _ _).mono ?_; rintro e w' ⟨rfl, rfl⟩))
  go_ret2
  exact ⟨rfl, rfl⟩
theorem shift16_r (a e : Int) (h1 : 0 ≤ a) (h2 : a < 65536) (h3 : 0 ≤ e) (h4 : e < 256) (w : World) :
    Calls Tryz.prog 49 #[.int .u16 a, .int .u8 e] w fun v w' => v = .returned (.tuple #[.int .u16 (shiftR a e), .int .u8 (shiftF a e)]) ∧ w = w' := by
  by_cases hs : 127 < e
  all_goals
    go_enter Tryz.func49, Tryz.ntmps49
    go_wp2_with ((go_at_call 45; refine (flags_r _ _ _ _ _).mono ?_; rintro e w' ⟨rfl, rfl⟩))
    go_ret2
    refine ⟨ret2 ?_ rfl, rfl⟩
    unfold shiftR signed
    split <;> omega
theorem daa_val (a f : Int) (n h c t l : Bool) (hn : nf f = n) (hh : hf f = h) (hc : cf f = c) (ht : decide (153 < a) = t) (hl : decide (9 < a % 16) = l) :
    daaR a f = (a + 512 + (bif n then -(fl 6 h + fl 96 c) else fl 6 (h || l) + fl 96 (c || t))) % 256 ∧
    daaF a f = FL ((a + 512 + (bif n then -(fl 6 h + fl 96 c) else fl 6 (h || l) + fl 96 (c || t))) % 256 == 0) n false (c || (!n && t)) := by
  have e : daaR a f = (a + 512 + (bif n then -(fl 6 h + fl 96 c) else fl 6 (h || l) + fl 96 (c || t))) % 256 := by
    unfold daaR; rw [hn, hh, hc, ht, hl]; cases n <;> simp only [cond_true, cond_false] <;> omega
  refine ⟨e, ?_⟩
  unfold daaF; rw [e, hn, hc, ht]
theorem daa_r (a f : Int) (h1 : 0 ≤ a) (h2 : a < 256) (h3 : 0 ≤ f) (h4 : f < 256) (w : World) :
    Calls Tryz.prog 46 #[.int .u8 a, .int .u8 f] w fun e w' => e = .returned (.tuple #[.int .u8 (daaR a f), .int .u8 (daaF a f)]) ∧ w = w' := by
  by_cases ht : 153 < a
  all_goals
   by_cases hl : 9 < a % 16
   all_goals
    cases hn : nf f <;> cases hh : hf f <;> cases hc : cf f
    all_goals
      have hv := Lib.hid (daa_val a f _ _ _ _ _ hn hh hc (by first | exact decide_eq_true ht | exact decide_eq_false ht) (by first | exact decide_eq_true hl | exact decide_eq_false hl)); go_enter Tryz.func46, Tryz.ntmps46
      go_wp2_with (first | (go_at_call 45; refine (flags_r _ _ _ _ _).mono ?_; rintro e w' ⟨rfl, rfl⟩) | (go_at_call 68; refine (n_r _ (by omega) (by omega) _).mono ?_; rintro e w' ⟨rfl, rfl⟩) | (go_at_call 64; refine (h_r _ (by omega) (by omega) _).mono ?_; rintro e w' ⟨rfl, rfl⟩) | (go_at_call 34; refine (c_r _ (by omega) (by omega) _).mono ?_; rintro e w' ⟨rfl, rfl⟩))
      go_ret2
      refine ⟨ret2 ?_ ?_, rfl⟩
      · rw [hv.out.1]
        refine congrArg (· % 256) ?_
        simp only [fl, cond_true, cond_false, Bool.or_true, Bool.or_false]; omega
      · rw [hv.out.2]
        refine congrArg (fun x => FL (x % 256 == 0) _ _ _) ?_
        simp only [fl, cond_true, cond_false, Bool.or_true, Bool.or_false]; omega
end Go.Proofs.YtngdogldgcgnjaaGreat.Alu
namespace Go.Proofs.YtngdogldgcgnjaaGreat.Alu
open Go.ChangeShapes Go.WideShapes Go.ChangeAt Go.RowKit
set_option linter.unusedVariables false
/-! ### Bits of a byte, as numbers -/
def sh (a : Int) : Nat → Int
 | 0 => a
 | k + 1 => sh a k / 2
def bt (a : Int) (k : Nat) : Int := sh a k % 2
theorem sh_b (a : Int) (k : Nat) (h1 : 0 ≤ a) (h2 : a < 256) : 0 ≤ sh a k ∧ sh a k < 256 := by
 induction k with
 | zero => exact ⟨h1, h2⟩
 | succ k ih => show 0 ≤ sh a k / 2 ∧ sh a k / 2 < 256; omega
theorem bt_b (a : Int) (k : Nat) : 0 ≤ bt a k ∧ bt a k ≤ 1 := by unfold bt; omega
theorem bit_r (a : Int) (n : Nat) (h1 : 0 ≤ a) (h2 : a < 256) (hn : n < 8) (w : World) :
  Calls Tryz.prog 65 #[.int .u8 a, .int .i64 n] w fun e w' => e = .returned (.int .i64 (bt a n)) ∧ w = w' := by
 go_enter Tryz.func65, Tryz.ntmps65; go_wp2
 go_loop [5, 6] (fun x i => ∃ k : Nat, k ≤ n ∧ i = .int .i64 k ∧ x = .int .i64 (sh a k)) (fun _ i => n - (intOf i).toNat)
 case atStart => exact ⟨0, by omega, rfl, rfl⟩
 case round =>
  obtain ⟨k, hk, rfl, rfl⟩ := hrel; have hb := sh_b a k h1 h2
  by_cases hlt : k < n
  ·go_wp2
   go_round
   case rel => exact ⟨k + 1, by omega, by go_num, rfl⟩
   case measure => simp [intOf]; omega
  ·obtain rfl : k = n := by omega
   go_wp2; go_ret
   exact ⟨rfl, rfl⟩
/-! ### A byte of bits -/
def val : List Int → Int
 | [] => 0
 | x :: l => x + 2 * val l
theorem val_b (l : List Int) (hl : l.length ≤ 8) (h : ∀ x ∈ l, 0 ≤ x ∧ x ≤ 1) : 0 ≤ val l ∧ val l < 256 := by
 have key : ∀ (l : List Int), (∀ x ∈ l, 0 ≤ x ∧ x ≤ 1) → 0 ≤ val l ∧ val l < 2 ^ l.length := by
  intro l
  induction l with
  | nil => intro _; simp [val]
  | cons x l ih =>
   intro h
   have hx := h x (by simp)
   have ht := ih (fun y hy => h y (by simp [hy]))
   have e : (2 : Int) ^ (x :: l).length = 2 * 2 ^ l.length := by rw [List.length_cons, Int.pow_succ]; omega
   rw [e]; simp only [val]
   omega
 have k := key l h
 have : (2 : Int) ^ l.length ≤ 2 ^ 8 := by
  have := Nat.pow_le_pow_right (n := 2) (by decide) hl
  exact_mod_cast this
 omega
theorem val_drop (l : List Int) (k : Nat) (hk : k < l.length) : val (l.drop k) = l.getD k 0 + 2 * val (l.drop (k + 1)) := by
 rw [List.drop_eq_getElem_cons hk]; simp [val, hk]
theorem byteOf_r (xs : List Int) (g cap : Nat) (w : World) (hl : xs.length = 8) (h01 : ∀ x ∈ xs, 0 ≤ x ∧ x ≤ 1)
  (hc : ∀ j, j < 8 → w.cell? ⟨g, j, none⟩ = some (.int .i64 (xs.getD j 0))) :
  Calls Tryz.prog 67 #[.slice (some ⟨g, 0, none⟩) 8 cap] w fun e w' => e = .returned (.int .u8 (val xs)) ∧ w = w' := by
 go_enter Tryz.func67, Tryz.ntmps67; go_wp2
 go_loop [3, 4] (fun x i => ∃ k : Nat, k ≤ 8 ∧ i = .int .i64 ((k : Int) - 1) ∧ x = .int .i64 (val (xs.drop k))) (fun _ i => (intOf i + 1).toNat)
 case atStart => exact ⟨8, by omega, rfl, by rw [List.drop_of_length_le (by omega)]; rfl⟩
 case round =>
  obtain ⟨k, hk, rfl, rfl⟩ := hrel
  have hb := val_b (xs.drop k) (by simp; omega) (fun x hx => h01 x (List.mem_of_mem_drop hx))
  match k, hk, hb with
  | 0, hk, hb =>
   go_wp2; go_ret
   refine ⟨ret1 ?_, rfl⟩
   rw [List.drop_zero] at hb
   omega
  | k + 1, hk, hb =>
   have hcc := hc k (by omega); have hv := Lib.hid (val_drop xs k (by omega))
   have hx : 0 ≤ xs[k]?.getD 0 ∧ xs[k]?.getD 0 ≤ 1 := by
    rw [List.getElem?_eq_getElem (by omega)]; exact h01 _ (List.getElem_mem _)
   go_wp2
   go_round
   case rel => exact ⟨k, by omega, by go_num, congrArg (Value.int .i64) (by rw [hv.out]; simp only [List.getD_eq_getElem?_getD]; omega)⟩
   case measure => simp [intOf]
/-! ### Lists of bits, made one by one -/
def bl (f : Nat → Int) : Nat → List Int
 | 0 => []
 | k + 1 => bl f k ++ [f k]
theorem bl_len (f : Nat → Int) (k : Nat) : (bl f k).length = k := by
 induction k with
 | zero => rfl
 | succ k ih => simp [bl, ih]
theorem bl_mem (f : Nat → Int) (h : ∀ j, 0 ≤ f j ∧ f j ≤ 1) (k : Nat) : ∀ x ∈ bl f k, 0 ≤ x ∧ x ≤ 1 := by
 induction k with
 | zero => intro x hx; simp [bl] at hx
 | succ k ih =>
  intro x hx
  simp only [bl, List.mem_append, List.mem_singleton] at hx
  rcases hx with hx | rfl
  ·exact ih x hx
  ·exact h k
def iv (l : List Int) : List Value := l.map (Value.int .i64)
theorem Tryz.info3 : (Tryz.prog.info? 3).map (fun i => (i.zero, i.size, i.bytes)) = some (some (.int .i64 0), 1, 8) := by kernel_rfl
theorem own8 {w : World} {base : Nat} {v : Value} {xs : List Int} (hl : xs.length = 8) (h : w.ownsRow base 3 1 v 8 (iv xs)) :
  ∃ g cap, v = .slice (some ⟨g, 0, none⟩) 8 cap ∧ ∀ j, j < 8 → w.cell? ⟨g, j, none⟩ = some (.int .i64 (xs.getD j 0)) := by
 rcases h.2 with ⟨_, h0⟩ | ⟨g, cap, cur, rfl, _⟩
 ·exact absurd h0 (by decide)
 ·refine ⟨g, cap, rfl, fun j hj => ?_⟩
  rw [h.cellAt j (by omega)]
  simp [iv, List.getElem?_eq_getElem (show j < xs.length by omega)]
theorem own_next {w0 wr w1 : World} {v v' : Value} {f : Nat → Int} {k : Nat} {o : Obj} (hnx : Below w0.heap.size w0 wr)
  (hown : wr.ownsRow w0.heap.size 3 1 v k (iv (bl f k))) (hown' : w1.ownsRow w0.heap.size 3 1 v' (k + 1) (iv (bl f k) ++ [.int .i64 (f k)]))
  (hg : (wr.alloc o).grownBy w1 v.ownBlock) :
  w1.ownsRow w0.heap.size 3 1 v' (k + 1) (iv (bl f (k + 1))) ∧ Below w0.heap.size w0 w1 := by
 refine ⟨by simpa [iv, bl] using hown', ?_⟩
 have hs := hnx.size
 exact (hnx.alloc hs o).grown hg (by simp; omega) (fun k hk => (hown.lt k hk).1)
/-! ### Add -/
def addc (a b : Int) (c : Bool) : Nat → Int
 | 0 => fl 1 c
 | k + 1 => (bt a k + bt b k + addc a b c k) / 2
def adds (a b : Int) (c : Bool) (k : Nat) : Int := (bt a k + bt b k + addc a b c k) % 2
theorem addc_b (a b : Int) (c : Bool) (k : Nat) : 0 ≤ addc a b c k ∧ addc a b c k ≤ 1 := by
 induction k with
 | zero => exact fl_bd 1 (by decide) c
 | succ k ih => have := bt_b a k; have := bt_b b k; show 0 ≤ (bt a k + bt b k + addc a b c k) / 2 ∧ (bt a k + bt b k + addc a b c k) / 2 ≤ 1; omega
theorem adds_b (a b : Int) (c : Bool) (k : Nat) : 0 ≤ adds a b c k ∧ adds a b c k ≤ 1 := by unfold adds; omega
def hv (x : Int) (k : Nat) : Bool := decide (3 < k) && (x == 1)
theorem hv_succ (x : Int) (k : Nat) (h : k ≠ 3) : hv x (k + 1) = hv x k := by
 unfold hv; congr 1; simp; omega
theorem one_cell (w : World) (x y : Value) (h : y = x) : ∀ (j : Nat) (u : Value), [x][j]? = some u → (w.alloc (Obj.cells #[y] 3)).cell? ((⟨w.heap.size, 0, none⟩ : Addr).add j) = some u := by
 intro j u hj
 match j, hj with
 | 0, hj => simp at hj; subst hj; subst h; simp [Addr.add]
theorem add_r (a b : Int) (c : Bool) (h1 : 0 ≤ a) (h2 : a < 256) (h3 : 0 ≤ b) (h4 : b < 256) (w : World) :
  Calls Tryz.prog 61 #[.int .u8 a, .int .u8 b, .bool c] w fun e w' => e = .returned (.tuple #[.int .u8 (val (bl (adds a b c) 8)), .int .u8 (FL (val (bl (adds a b c) 8) == 0) false (addc a b c 4 == 1) (addc a b c 8 == 1))]) ∧ Below w.heap.size w w' := by
 obtain ⟨i0, hi, hz0, hz1, hz2⟩ := info_parts Tryz.info3; go_enter Tryz.func61, Tryz.ntmps61
 go_wp2_with (go_at_call 66; refine (one_r _ _).mono ?_; rintro e w' ⟨rfl, rfl⟩)
 go_loopw [8, 9, 10, 11] (fun cv h l i wr => ∃ k : Nat, k ≤ 8 ∧ i = .int .i64 k ∧ cv = .int .i64 (addc a b c k) ∧ h = .bool (hv (addc a b c 4) k) ∧ wr.ownsRow w.heap.size 3 1 l k (iv (bl (adds a b c) k)) ∧ Below w.heap.size w wr)
  (fun _ _ _ i _ => 8 - (intOf i).toNat)
 case atStart => exact ⟨0, by omega, rfl, rfl, rfl, World.ownsRow_nil _ _ _ _, Below.refl _ _⟩
 case round =>
  obtain ⟨k, hk, rfl, rfl, rfl, hown, hnx⟩ := hrel; have hca := addc_b a b c k; have hba := bt_b a k; have hbb := bt_b b k
  by_cases hlt : k < 8
  ·go_wp2_with (first
    | (go_at_call 65; refine (bit_r _ _ (by omega) (by omega) (by omega) _).mono ?_; rintro e w' ⟨rfl, rfl⟩)
    | (at_builtin; refine wpList_append_own _ rfl _ _ 64 rfl w.heap.size 3 i0 (.int .i64 0) 1 8 Tryz.underlying64 hi hz0 hz1 hz2 rfl (by decide) _ _ _ rfl (hown.alloc _) ⟨wr.heap.size, 0, none⟩ 1 1 [.int .i64 (adds a b c k)] rfl rfl ?c1 ?c2 ?c3 ?c4 ?c5 ?_))
   case c1 => exact one_cell wr _ _ rfl
   case c2 => intro u hu; simp at hu; subst hu; rfl
   case c3 => unfold maxLen; omega
   case c4 => omega
   case c5 => have := hnx.size; simp; omega
   intro v' w1 hown' hgrow _
   have R := own_next hnx hown hown' hgrow; clear hown' hgrow hown
   by_cases h3 : k = 3
   ·have e3 : (((k : Nat) : Int) == 3) = true := by simp; omega
    have H3 := Lib.hid h3; clear h3; go_wp2
    go_roundw
    case rel => exact ⟨k + 1, by omega, by go_num, rfl, by rw [H3.out]; rfl, R.1, R.2⟩
    case measure => simp [intOf]; omega
   ·have e3 : (((k : Nat) : Int) == 3) = false := by simp; omega
    go_wp2
    go_roundw
    case rel => exact ⟨k + 1, by omega, by go_num, rfl, by rw [hv_succ _ _ h3], R.1, R.2⟩
    case measure => simp [intOf]; omega
  ·obtain rfl : k = 8 := by omega
   obtain ⟨g, cap, hv8, hcells⟩ := own8 (bl_len _ _) hown
   have hbo := byteOf_r (bl (adds a b c) 8) g cap wr (bl_len _ _) (bl_mem _ (adds_b a b c) 8) hcells
   have hvb := val_b (bl (adds a b c) 8) (by rw [bl_len]; omega) (bl_mem _ (adds_b a b c) 8); clear hcells hown; rw [hv8]; clear hv8
   go_wp2_with (first
    | (go_at_call 67; refine hbo.mono ?_; rintro e w' ⟨rfl, rfl⟩)
    | (go_at_call 45; refine (flags_r _ _ _ _ _).mono ?_; rintro e w' ⟨rfl, rfl⟩))
   go_ret2
   exact ⟨rfl, hnx⟩
end Go.Proofs.YtngdogldgcgnjaaGreat.Alu
