/-
  What perform does, for every order: for every world; the processor is there.
  (Some texts in one.)
-/
import Derived.Test.YtngdogldgcgnjaaGreatZ17
import Derived.Test.YtngdogldgcgnjaaGreatZ18
import Derived.Test.YtngdogldgcgnjaaGreatZ11
set_option maxRecDepth 100000
set_option maxHeartbeats 8000000
namespace Go.Proofs.YtngdogldgcgnjaaGreat
open Go.ChangeShapes Go.WideShapes Go.ChangeAt Go.RowKit
open Reg
set_option linter.unusedVariables false
section
variable {w : World} {P R M tb n : Nat} {v : Value} {y : Sy}
def goodB (r : OpV) : Bool := decide (1 ≤ r.k) && decide (r.k ≤ 46) && decide (0 ≤ r.x) && decide (r.x < 8) && decide (0 ≤ r.y) && decide (r.y < 8) && decide (1 ≤ r.s) && decide (r.s ≤ 3) && decide (0 ≤ r.n) && decide (r.n < 256) && (!(r.k == 34 || r.k == 35) || r.s == 2) && (!(r.k == 4) || r.s == 1) && (!(r.k == 32 || r.k == 33) || decide (r.x < 4)) && (!(r.k == 28) || r.s == 1)
theorem plT_good : ∀ n : Fin 256, goodB (plT n.val) = true := by decide +kernel
theorem pfT_good : ∀ n : Fin 256, (goodB (pfT n.val) && (pfT n.val).s == 2) = true := by decide +kernel
structure Good (r : OpV) : Prop where
 k0 : 1 ≤ r.k
 k1 : r.k ≤ 46
 x0 : 0 ≤ r.x
 x1 : r.x < 8
 y0 : 0 ≤ r.y
 y1 : r.y < 8
 s0 : 1 ≤ r.s
 s1 : r.s ≤ 3
 n0 : 0 ≤ r.n
 n1 : r.n < 65536
 hi : r.k = 34 ∨ r.k = 35 → r.n < 256
 bad : r.k = 4 → r.s = 1
 far : r.k = 32 ∨ r.k = 33 → r.x < 4
theorem good_dec (a b c : Nat) (ha : a < 256) (hb : b < 256) (hc : c < 256) : Good (decF a b c) := by
 unfold decF
 split
 ·have h := pfT_good ⟨b, hb⟩
  simp only [goodB, Bool.and_eq_true, decide_eq_true_eq, Bool.or_eq_true, Bool.not_eq_true', beq_iff_eq, Bool.or_eq_false_iff, beq_eq_false_iff_ne] at h
  obtain ⟨⟨⟨⟨⟨⟨⟨⟨⟨⟨⟨⟨⟨⟨h1, h2⟩, h3⟩, h4⟩, h5⟩, h6⟩, h7⟩, h8⟩, h9⟩, h10⟩, h11⟩, h12⟩, h13⟩, h14⟩, h15⟩ := h
  exact ⟨h1, h2, h3, h4, h5, h6, h7, h8, h9, by omega, fun _ => h10, fun e => h12.resolve_left (fun h => h e), fun e => h13.resolve_left (fun h => e.elim h.1 h.2)⟩
 ·have h := plT_good ⟨a, ha⟩
  simp only [goodB, Bool.and_eq_true, decide_eq_true_eq, Bool.or_eq_true, Bool.not_eq_true', beq_iff_eq, Bool.or_eq_false_iff, beq_eq_false_iff_ne] at h
  obtain ⟨⟨⟨⟨⟨⟨⟨⟨⟨⟨⟨⟨⟨h1, h2⟩, h3⟩, h4⟩, h5⟩, h6⟩, h7⟩, h8⟩, h9⟩, h10⟩, h11⟩, h12⟩, h13⟩, h14⟩ := h
  unfold decN
  split
  ·exact ⟨h1, h2, h3, h4, h5, h6, h7, h8, by show 0 ≤ (b : Int); omega, by show (b : Int) < 65536; omega, fun _ => by show (b : Int) < 256; omega, fun e => h12.resolve_left (fun h => h e), fun e => h13.resolve_left (fun h => Or.elim (show (plT a).k = 32 ∨ (plT a).k = 33 from e) h.1 h.2)⟩
  ·split
   ·rename_i hs2 hs3
    exact ⟨h1, h2, h3, h4, h5, h6, h7, h8, by show 0 ≤ (c : Int) * 256 + b; omega, by show (c : Int) * 256 + b < 65536; omega, fun e => (h11.elim (fun h => Or.elim (show (plT a).k = 34 ∨ (plT a).k = 35 from e) (fun q => absurd q h.1) (fun q => absurd q h.2)) (fun h => absurd h hs2)), fun e => h12.resolve_left (fun h => h e), fun e => h13.resolve_left (fun h => Or.elim (show (plT a).k = 32 ∨ (plT a).k = 33 from e) h.1 h.2)⟩
   ·exact ⟨h1, h2, h3, h4, h5, h6, h7, h8, h9, by omega, fun _ => h10, fun e => h12.resolve_left (fun h => h e), fun e => h13.resolve_left (fun h => e.elim h.1 h.2)⟩
theorem PE.wide {D : Nat → Array Value} {C : Nat → Int → Value → Array Value} {f : FuncId} {args : Array Value} {r : Value} {k k' : Nat} {y' : Sy} (h : Calls Tryz.prog f args w (PE D C P R M tb v w r y' k)) (hk : k ≤ k') : Calls Tryz.prog f args w (PE D C P R M tb v w r y' k') :=
 h.mono fun _ _ ⟨a, v', s, m⟩ => ⟨a, v', s.mono hk, m⟩
theorem perf_p (h0 : Sys procD ramC w P R M tb v y n) (hn : n < 950000) (o : OpV) (g : Good o) (t : Bool) : Calls Tryz.prog 55 #[.pointer (some ⟨P, 0, none⟩), .agg #[.int .i64 o.k, .int .i64 o.x, .int .i64 o.y, .int .i64 o.s, .int .u16 o.n], .bool t] w (PE procD ramC P R M tb v w (.tuple #[]) (doneS o t y) (n + 4)) := by
 obtain ⟨k, x, z, s, nn⟩ := o; obtain ⟨k0, k1, x0, x1, y0, y1, s0, s1, n0, n1, hi, bad, far⟩ := g
 dsimp only at k0 k1 x0 x1 y0 y1 s0 s1 n0 n1 hi bad far
 have hk : k = 1 ∨ k = 2 ∨ k = 3 ∨ k = 4 ∨ k = 5 ∨ k = 6 ∨ k = 7 ∨ k = 8 ∨ k = 9 ∨ k = 10 ∨ k = 11 ∨ k = 12 ∨ k = 13 ∨ k = 14 ∨ k = 15 ∨ k = 16 ∨ k = 17 ∨ k = 18 ∨ k = 19 ∨ k = 20 ∨ k = 21 ∨ k = 22 ∨ k = 23 ∨ k = 24 ∨ k = 25 ∨ k = 26 ∨ k = 27 ∨ k = 28 ∨ k = 29 ∨ k = 30 ∨ k = 31 ∨ k = 32 ∨ k = 33 ∨ k = 34 ∨ k = 35 ∨ k = 36 ∨ k = 37 ∨ k = 38 ∨ k = 39 ∨ k = 40 ∨ k = 41 ∨ k = 42 ∨ k = 43 ∨ k = 44 ∨ k = 45 ∨ k = 46 := by omega
 rcases hk with rfl | rfl | rfl | rfl | rfl | rfl | rfl | rfl | rfl | rfl | rfl | rfl | rfl | rfl | rfl | rfl | rfl | rfl | rfl | rfl | rfl | rfl | rfl | rfl | rfl | rfl | rfl | rfl | rfl | rfl | rfl | rfl | rfl | rfl | rfl | rfl | rfl | rfl | rfl | rfl | rfl | rfl | rfl | rfl | rfl | rfl
 ·exact PE.wide (perf_1 h0 hn x z s nn t) (by omega)
 ·exact PE.wide (perf_2 h0 hn x z s nn t) (by omega)
 ·exact PE.wide (perf_3 h0 hn x z s nn t) (by omega)
 ·obtain rfl : s = 1 := bad rfl
  exact PE.wide (perf_4 h0 hn x z nn t) (by omega)
 ·exact PE.wide (perf_5 h0 hn x z s nn t) (by omega)
 ·exact PE.wide (perf_6 h0 hn x z s nn t) (by omega)
 ·exact PE.wide (perf_7 h0 hn x z s nn t) (by omega)
 ·exact PE.wide (perf_8 h0 hn x z s nn t) (by omega)
 ·exact PE.wide (perf_9 h0 hn x z s nn n0 n1 t) (by omega)
 ·exact PE.wide (perf_10 h0 hn x z s nn x0 x1 t) (by omega)
 ·exact PE.wide (perf_11 h0 hn x z s nn x0 x1 t) (by omega)
 ·exact PE.wide (perf_12 h0 hn x z s nn t) (by omega)
 ·exact PE.wide (perf_13 h0 hn x z s nn t) (by omega)
 ·exact PE.wide (perf_14 h0 hn x z s nn t) (by omega)
 ·exact PE.wide (perf_15 h0 hn x z s nn t) (by omega)
 ·exact PE.wide (perf_16 h0 hn x z s nn t) (by omega)
 ·exact PE.wide (perf_17 h0 hn x z s nn t) (by omega)
 ·exact PE.wide (perf_18 h0 hn x z s nn t) (by omega)
 ·exact PE.wide (perf_19 h0 hn x z s nn t) (by omega)
 ·exact PE.wide (perf_20 h0 hn x z s nn t) (by omega)
 ·exact PE.wide (perf_21 h0 hn x z s nn t) (by omega)
 ·exact PE.wide (perf_22 h0 hn x z s nn t) (by omega)
 ·cases t
  ·exact PE.wide (perf_23_f h0 hn x z s nn) (by omega)
  ·exact PE.wide (perf_23_t h0 hn x z s nn) (by omega)
 ·cases t
  ·exact PE.wide (perf_24_f h0 hn x z s nn) (by omega)
  ·exact PE.wide (perf_24_t h0 hn x z s nn n0 n1) (by omega)
 ·cases t
  ·exact PE.wide (perf_25_f h0 hn x z s nn) (by omega)
  ·exact PE.wide (perf_25_t h0 hn x z s nn n0 n1) (by omega)
 ·by_cases hx : x = 4
  ·subst hx
   cases t
   ·exact PE.wide (perf_26_f4 h0 hn z s nn) (by omega)
   ·exact PE.wide (perf_26_t4 h0 hn z s nn) (by omega)
  ·have hx' : (x == 4) = false := by simpa using hx
   cases t
   ·have e : doneS ⟨26, x, z, s, nn⟩ false y = idle y := by
     show (bif x == 4 then y else idle y) = idle y
     rw [hx']; rfl
    rw [e]
    exact PE.wide (perf_26_f h0 hn x z s nn hx) (by omega)
   ·have e : doneS ⟨26, x, z, s, nn⟩ true y = leaveS (idle y) := by
     show leaveS (bif x == 4 then y else idle y) = leaveS (idle y)
     rw [hx']; rfl
    rw [e]
    exact PE.wide (perf_26_t h0 hn x z s nn hx) (by omega)
 ·exact PE.wide (perf_27 h0 hn x z s nn t) (by omega)
 ·exact PE.wide (perf_28 h0 hn x z s nn n0 n1 t) (by omega)
 ·exact PE.wide (perf_29 h0 hn x z s nn t) (by omega)
 ·exact PE.wide (perf_30 h0 hn x z s nn t) (by omega)
 ·exact PE.wide (perf_31 h0 hn x z s nn t) (by omega)
 ·exact PE.wide (perf_32 h0 hn x z s nn t) (by omega)
 ·exact PE.wide (perf_33 h0 hn x z s nn t) (by omega)
 ·exact PE.wide (perf_34 h0 hn x z s nn n0 (hi (by decide)) t) (by omega)
 ·exact PE.wide (perf_35 h0 hn x z s nn n0 (hi (by decide)) t) (by omega)
 ·exact PE.wide (perf_36 h0 hn x z s nn t) (by omega)
 ·exact PE.wide (perf_37 h0 hn x z s nn t) (by omega)
 ·exact PE.wide (perf_38 h0 hn x z s nn n0 n1 t) (by omega)
 ·exact PE.wide (perf_39 h0 hn x z s nn n0 n1 t) (by omega)
 ·exact PE.wide (perf_40 h0 hn x z s nn n0 n1 t) (by omega)
 ·exact PE.wide (perf_41 h0 hn x z s nn t) (by omega)
 ·exact PE.wide (perf_42 h0 hn x z s nn t) (by omega)
 ·exact PE.wide (perf_43 h0 hn x z s nn t) (by omega)
 ·exact PE.wide (perf_44 h0 hn x z s nn t) (by omega)
 ·exact PE.wide (perf_45 h0 hn x z s nn x0 x1 t) (by omega)
 ·exact PE.wide (perf_46 h0 hn x z s nn x0 x1 t) (by omega)
end
end Go.Proofs.YtngdogldgcgnjaaGreat
namespace Go.Proofs.YtngdogldgcgnjaaGreat
open Go.ChangeShapes Go.WideShapes Go.ChangeAt Go.RowKit
open Reg
set_option linter.unusedVariables false
section
variable {w : World} {P R M tb n : Nat} {v : Value} {y : Sy}
theorem tz8 (p : Int) (p0 : 0 ≤ p) (p1 : p < 32) (hp : p ≠ 0) (w : World) : Calls Tryz.prog 28 #[.int .u8 p] w fun e w' => e = .returned (.int .i64 (lowV p)) ∧ w = w' := by
 have hk : p = 1 ∨ p = 2 ∨ p = 3 ∨ p = 4 ∨ p = 5 ∨ p = 6 ∨ p = 7 ∨ p = 8 ∨ p = 9 ∨ p = 10 ∨ p = 11 ∨ p = 12 ∨ p = 13 ∨ p = 14 ∨ p = 15 ∨ p = 16 ∨ p = 17 ∨ p = 18 ∨ p = 19 ∨ p = 20 ∨ p = 21 ∨ p = 22 ∨ p = 23 ∨ p = 24 ∨ p = 25 ∨ p = 26 ∨ p = 27 ∨ p = 28 ∨ p = 29 ∨ p = 30 ∨ p = 31 := by omega
 clear p0 p1 hp
 rcases hk with rfl | rfl | rfl | rfl | rfl | rfl | rfl | rfl | rfl | rfl | rfl | rfl | rfl | rfl | rfl | rfl | rfl | rfl | rfl | rfl | rfl | rfl | rfl | rfl | rfl | rfl | rfl | rfl | rfl | rfl | rfl
 all_goals
  go_enter Tryz.func28, Tryz.ntmps28; go_wp2; go_ret
  exact ⟨by kernel_rfl, rfl⟩
theorem lowV_lt (p : Int) : lowV p < 5 := by unfold lowV; repeat (first | decide | split)
theorem v64 (k : Nat) (hk : k < 5) : IntKind.u16.wrap (64 + IntKind.u16.wrap (8 * IntKind.u16.wrap k)) = 64 + 8 * (k : Int) := by
 rw [IntKind.wrap_u16, IntKind.wrap_u16, IntKind.wrap_u16]; omega
theorem holds_23 (h0 : Sys procD ramC w P R M tb v y n) (hn : n < 900000) (x z s nn : Int) : Calls Tryz.prog 54 #[.pointer (some ⟨P, 0, none⟩), .agg #[.int .i64 23, .int .i64 x, .int .i64 z, .int .i64 s, .int .u16 nn]] w (PE procD ramC P R M tb v w (.bool (isV y.s.r x)) (y) (n + 0)) := by
 have fb := h0.fb; obtain ⟨S0, M0, HO, NO⟩ := h0.beg #[.int .i64 23, .int .i64 x, .int .i64 z, .int .i64 s, .int .u16 nn] 44; obtain ⟨hc, hf⟩ := S0.out.cp; clear h0; go_enter Tryz.func54, Tryz.ntmps54; go_wp2; generalize w.alloc (.cells #[.int .i64 23, .int .i64 x, .int .i64 z, .int .i64 s, .int .u16 nn] 44) = w0 at S0 M0 HO hc hf ⊢; generalize w.heap.size = ob at HO NO ⊢; have ho := HO.out.2.1; have S0' := Lib.hid S0.out.drew; have M0' := Lib.hid (M0.out.trans (PM.drew P R M tb v w0)); clear hc hf; obtain ⟨hc, hf⟩ := S0'.out.cp; have HO' := Lib.hid HO.out.drew; clear ho HO; have HO := HO'; clear HO'; have ho := HO.out.2.1
 go_still_tail 7, (by kernel_rfl)
 change wpList _ _ _ _ _ (World.drew w0)
 generalize World.drew w0 = u0 at hc hf S0' M0' HO ho ⊢; clear S0 M0; have S0 := S0'; have M0 := M0'; clear S0' M0'; go_wp2_with fail
 with_reducible refine (is_c y.s.r x fb.1 fb.2 _).mono ?_
 rintro e w1 ⟨rfl, hb⟩; have HB := Lib.hid hb; clear hb; go_wp2; go_ret
 exact ⟨rfl, v, S0.out.below HB.out, M0.out.trans (PM.of HB.out)⟩
theorem holds_24 (h0 : Sys procD ramC w P R M tb v y n) (hn : n < 900000) (x z s nn : Int) : Calls Tryz.prog 54 #[.pointer (some ⟨P, 0, none⟩), .agg #[.int .i64 24, .int .i64 x, .int .i64 z, .int .i64 s, .int .u16 nn]] w (PE procD ramC P R M tb v w (.bool (isV y.s.r x)) (y) (n + 0)) := by
 have fb := h0.fb; obtain ⟨S0, M0, HO, NO⟩ := h0.beg #[.int .i64 24, .int .i64 x, .int .i64 z, .int .i64 s, .int .u16 nn] 44; obtain ⟨hc, hf⟩ := S0.out.cp; clear h0; go_enter Tryz.func54, Tryz.ntmps54; go_wp2; generalize w.alloc (.cells #[.int .i64 24, .int .i64 x, .int .i64 z, .int .i64 s, .int .u16 nn] 44) = w0 at S0 M0 HO hc hf ⊢; generalize w.heap.size = ob at HO NO ⊢; have ho := HO.out.2.1; have S0' := Lib.hid S0.out.drew; have M0' := Lib.hid (M0.out.trans (PM.drew P R M tb v w0)); clear hc hf; obtain ⟨hc, hf⟩ := S0'.out.cp; have HO' := Lib.hid HO.out.drew; clear ho HO; have HO := HO'; clear HO'; have ho := HO.out.2.1
 go_still_tail 7, (by kernel_rfl)
 change wpList _ _ _ _ _ (World.drew w0)
 generalize World.drew w0 = u0 at hc hf S0' M0' HO ho ⊢; clear S0 M0; have S0 := S0'; have M0 := M0'; clear S0' M0'; go_wp2_with fail
 with_reducible refine (is_c y.s.r x fb.1 fb.2 _).mono ?_
 rintro e w1 ⟨rfl, hb⟩; have HB := Lib.hid hb; clear hb; go_wp2; go_ret
 exact ⟨rfl, v, S0.out.below HB.out, M0.out.trans (PM.of HB.out)⟩
theorem holds_25 (h0 : Sys procD ramC w P R M tb v y n) (hn : n < 900000) (x z s nn : Int) : Calls Tryz.prog 54 #[.pointer (some ⟨P, 0, none⟩), .agg #[.int .i64 25, .int .i64 x, .int .i64 z, .int .i64 s, .int .u16 nn]] w (PE procD ramC P R M tb v w (.bool (isV y.s.r x)) (y) (n + 0)) := by
 have fb := h0.fb; obtain ⟨S0, M0, HO, NO⟩ := h0.beg #[.int .i64 25, .int .i64 x, .int .i64 z, .int .i64 s, .int .u16 nn] 44; obtain ⟨hc, hf⟩ := S0.out.cp; clear h0; go_enter Tryz.func54, Tryz.ntmps54; go_wp2; generalize w.alloc (.cells #[.int .i64 25, .int .i64 x, .int .i64 z, .int .i64 s, .int .u16 nn] 44) = w0 at S0 M0 HO hc hf ⊢; generalize w.heap.size = ob at HO NO ⊢; have ho := HO.out.2.1; have S0' := Lib.hid S0.out.drew; have M0' := Lib.hid (M0.out.trans (PM.drew P R M tb v w0)); clear hc hf; obtain ⟨hc, hf⟩ := S0'.out.cp; have HO' := Lib.hid HO.out.drew; clear ho HO; have HO := HO'; clear HO'; have ho := HO.out.2.1
 go_still_tail 7, (by kernel_rfl)
 change wpList _ _ _ _ _ (World.drew w0)
 generalize World.drew w0 = u0 at hc hf S0' M0' HO ho ⊢; clear S0 M0; have S0 := S0'; have M0 := M0'; clear S0' M0'; go_wp2_with fail
 with_reducible refine (is_c y.s.r x fb.1 fb.2 _).mono ?_
 rintro e w1 ⟨rfl, hb⟩; have HB := Lib.hid hb; clear hb; go_wp2; go_ret
 exact ⟨rfl, v, S0.out.below HB.out, M0.out.trans (PM.of HB.out)⟩
theorem holds_26 (h0 : Sys procD ramC w P R M tb v y n) (hn : n < 900000) (x z s nn : Int) : Calls Tryz.prog 54 #[.pointer (some ⟨P, 0, none⟩), .agg #[.int .i64 26, .int .i64 x, .int .i64 z, .int .i64 s, .int .u16 nn]] w (PE procD ramC P R M tb v w (.bool (isV y.s.r x)) (y) (n + 0)) := by
 have fb := h0.fb; obtain ⟨S0, M0, HO, NO⟩ := h0.beg #[.int .i64 26, .int .i64 x, .int .i64 z, .int .i64 s, .int .u16 nn] 44; obtain ⟨hc, hf⟩ := S0.out.cp; clear h0; go_enter Tryz.func54, Tryz.ntmps54; go_wp2; generalize w.alloc (.cells #[.int .i64 26, .int .i64 x, .int .i64 z, .int .i64 s, .int .u16 nn] 44) = w0 at S0 M0 HO hc hf ⊢; generalize w.heap.size = ob at HO NO ⊢; have ho := HO.out.2.1; have S0' := Lib.hid S0.out.drew; have M0' := Lib.hid (M0.out.trans (PM.drew P R M tb v w0)); clear hc hf; obtain ⟨hc, hf⟩ := S0'.out.cp; have HO' := Lib.hid HO.out.drew; clear ho HO; have HO := HO'; clear HO'; have ho := HO.out.2.1
 go_still_tail 7, (by kernel_rfl)
 change wpList _ _ _ _ _ (World.drew w0)
 generalize World.drew w0 = u0 at hc hf S0' M0' HO ho ⊢; clear S0 M0; have S0 := S0'; have M0 := M0'; clear S0' M0'; go_wp2_with fail
 with_reducible refine (is_c y.s.r x fb.1 fb.2 _).mono ?_
 rintro e w1 ⟨rfl, hb⟩; have HB := Lib.hid hb; clear hb; go_wp2; go_ret
 exact ⟨rfl, v, S0.out.below HB.out, M0.out.trans (PM.of HB.out)⟩
theorem holds_n (h0 : Sys procD ramC w P R M tb v y n) (hn : n < 900000) (k x z s nn : Int) (a23 : k ≠ 23) (a24 : k ≠ 24) (a25 : k ≠ 25) (a26 : k ≠ 26) : Calls Tryz.prog 54 #[.pointer (some ⟨P, 0, none⟩), .agg #[.int .i64 k, .int .i64 x, .int .i64 z, .int .i64 s, .int .u16 nn]] w (PE procD ramC P R M tb v w (.bool true) (y) (n + 0)) := by
 have h23 : (k == 23) = false := by simpa using a23
 have h24 : (k == 24) = false := by simpa using a24
 have h25 : (k == 25) = false := by simpa using a25
 have h26 : (k == 26) = false := by simpa using a26
 obtain ⟨S0, M0, HO, NO⟩ := h0.beg #[.int .i64 k, .int .i64 x, .int .i64 z, .int .i64 s, .int .u16 nn] 44; obtain ⟨hc, hf⟩ := S0.out.cp; clear h0; go_enter Tryz.func54, Tryz.ntmps54; go_wp2; go_ret
 exact ⟨rfl, v, S0.out, M0.out⟩
theorem holds_p (h0 : Sys procD ramC w P R M tb v y n) (hn : n < 900000) (o : OpV) : Calls Tryz.prog 54 #[.pointer (some ⟨P, 0, none⟩), .agg #[.int .i64 o.k, .int .i64 o.x, .int .i64 o.y, .int .i64 o.s, .int .u16 o.n]] w (PE procD ramC P R M tb v w (.bool (takenV o y)) y (n + 0)) := by
 obtain ⟨k, x, z, s, nn⟩ := o
 by_cases h : k = 23 ∨ k = 24 ∨ k = 25 ∨ k = 26
 ·rcases h with rfl | rfl | rfl | rfl
  ·exact holds_23 h0 hn x z s nn
  ·exact holds_24 h0 hn x z s nn
  ·exact holds_25 h0 hn x z s nn
  ·exact holds_26 h0 hn x z s nn
 ·have e : takenV ⟨k, x, z, s, nn⟩ y = true := if_neg h
  rw [e]
  exact holds_n h0 hn k x z s nn (by omega) (by omega) (by omega) (by omega)
theorem inter_p (h0 : Sys procD ramC w P R M tb v y n) (hn : n < 900000) (k : Nat) (hk : k < 5) : Calls Tryz.prog 29 #[.pointer (some ⟨P, 0, none⟩), .int .i64 k] w (PE procD ramC P R M tb v w (.tuple #[]) (interS k y) (n + 5)) := by
 have hm := mI ⟨R, 0, none⟩; have hma := mA ⟨R, 0, none⟩; have hw := v64 k hk; have S0 := Lib.hid h0; have M0 := Lib.hid (PM.refl P R M tb v w); obtain ⟨hc, hf⟩ := h0.cp; clear h0; go_enter Tryz.func29, Tryz.ntmps29; go_wp2_with fail
 with_reducible refine (idle_p S0.out (by omega)).mono ?_
 rintro e w1 ⟨rfl, v1, s', m'⟩; have M1 := M0.tr m'; obtain ⟨y1, hy⟩ : ∃ q_, q_ = idle y := ⟨_, rfl⟩; rw [← hy] at s'; have Y1 := Lib.hid hy; clear hc hf; obtain ⟨hc, hf⟩ := s'.cp; have S1 := Lib.hid s'; clear s' m' hy; go_wp2_with fail
 with_reducible refine (idle_p S1.out (by omega)).mono ?_
 rintro e w2 ⟨rfl, v2, s', m'⟩; have M2 := M1.tr m'; obtain ⟨y2, hy⟩ : ∃ q_, q_ = idle y1 := ⟨_, rfl⟩; rw [← hy] at s'; have Y2 := Lib.hid hy; clear hc hf; obtain ⟨hc, hf⟩ := s'.cp; have S2 := Lib.hid s'; clear s' m' hy; go_wp2_with fail
 with_reducible refine (store_p S2.out (by omega) y2.s.r.pc S2.out.pcb.1 S2.out.pcb.2).mono ?_
 rintro e w3 ⟨rfl, v3, s', m'⟩; have M3 := M2.tr m'; obtain ⟨y3, hy⟩ : ∃ q_, q_ = storeS y2.s.r.pc y2 := ⟨_, rfl⟩; rw [← hy] at s'; have Y3 := Lib.hid hy; clear hc hf; obtain ⟨hc, hf⟩ := s'.cp; have S3 := Lib.hid s'; clear s' m' hy; go_wp2_with fail
 with_reducible refine (ack_p S3.out k hk).mono ?_
 rintro e w4 ⟨rfl, v4, s', m'⟩; have M4 := M3.tr m'; obtain ⟨y4, hy⟩ : ∃ q_, q_ = setM (ackM k y3.m) y3 := ⟨_, rfl⟩; rw [← hy] at s'; have Y4 := Lib.hid hy; clear hc hf; obtain ⟨hc, hf⟩ := s'.cp; have S4 := Lib.hid s'; clear s' m' hy; go_wp2_with fail
 with_reducible refine (idle_p S4.out (by omega)).mono ?_
 rintro e w5 ⟨rfl, v5, s', m'⟩; have M5 := M4.tr m'; obtain ⟨y5, hy⟩ : ∃ q_, q_ = idle y4 := ⟨_, rfl⟩; rw [← hy] at s'; have Y5 := Lib.hid hy; clear hc hf; obtain ⟨hc, hf⟩ := s'.cp; have S5 := Lib.hid s'; clear s' m' hy; have Q1 := Lib.hid (S5.out.stIme false); have Q2 := Lib.hid (Q1.out.1.stSoon false); have Q3 := Lib.hid (Q2.out.1.stPC (64 + 8 * (k : Int)) (by omega) (by omega)); go_wp2
 first | go_end0 | refine bodyPost_ret (results_none rfl _ _ _) rfl ?_
 refine ⟨rfl, v5, ?_, ((M5.out.trans Q1.out.2).trans Q2.out.2).trans Q3.out.2⟩
 have q := Q3.out.1
 have e1 : interS k y = setPC (64 + 8 * (k : Int)) (setSoon false (setIme false y5)) := by rw [Y5.out, Y4.out, Y3.out, Y2.out, Y1.out]; rfl
 rw [e1]
 exact q.mo
theorem b16 (p : Int) (h1 : 0 ≤ p) (h2 : p < 256) : (bits .and .u8 p 16 != 0) = decide (p / 16 % 2 = 1) :=
 byte_all (P := fun p => (bits .and .u8 p 16 != 0) = decide (p / 16 % 2 = 1)) (by decide +kernel) p h1 h2
def standS (y : Sy) : Sy := if pend y.m / 16 % 2 = 1 then setStop false (idle y) else idle y
theorem stand_p (h0 : Sys procD ramC w P R M tb v y n) (hn : n < 900000) : Calls Tryz.prog 27 #[.pointer (some ⟨P, 0, none⟩)] w (PE procD ramC P R M tb v w (.tuple #[]) (standS y) (n + 1)) := by
 have hm := mI ⟨R, 0, none⟩; have hmp := mP ⟨R, 0, none⟩; have S0 := Lib.hid h0; have M0 := Lib.hid (PM.refl P R M tb v w); obtain ⟨hc, hf⟩ := h0.cp; clear h0; go_enter Tryz.func27, Tryz.ntmps27; go_wp2_with fail
 with_reducible refine (idle_p S0.out (by omega)).mono ?_
 rintro e w1 ⟨rfl, v1, s', m'⟩; have M1 := M0.tr m'; obtain ⟨y1, hy⟩ : ∃ q_, q_ = idle y := ⟨_, rfl⟩; rw [← hy] at s'; have Y1 := Lib.hid hy; clear hc hf; obtain ⟨hc, hf⟩ := s'.cp; have S1 := Lib.hid s'; clear s' m' hy; go_wp2_with fail
 with_reducible refine (pend_p S1.out).mono ?_
 rintro e w2 ⟨rfl, v2, s', m'⟩; have M2 := M1.tr m'; obtain ⟨y2, hy⟩ : ∃ q_, q_ = y1 := ⟨_, rfl⟩; rw [← hy] at s'; have Y2 := Lib.hid hy; clear hc hf; obtain ⟨hc, hf⟩ := s'.cp; have S2 := Lib.hid s'; clear s' m' hy
 have pb := pend_bd y1.m (fun a => S1.out.okm a)
 have em : y1.m = y.m := by rw [Y1.out]; rfl
 have hb := b16 (pend y1.m) pb.1 (by omega); have EM := Lib.hid em; clear em
 by_cases hp : pend y1.m / 16 % 2 = 1
 ·have hb2 : (bits .and .u8 (pend y1.m) 16 != 0) = true := by rw [hb]; exact decide_eq_true hp
  clear hb; have Q := Lib.hid (S2.out.stStop false); go_wp2
  first | go_end0 | refine bodyPost_ret (results_none rfl _ _ _) rfl ?_
  refine ⟨rfl, v2, ?_, M2.out.trans Q.out.2⟩
  have q := Q.out.1
  have e1 : standS y = setStop false y2 := by unfold standS; rw [← EM.out, if_pos hp, Y2.out, Y1.out]
  rw [e1]
  exact q.mo
 ·have hb2 : (bits .and .u8 (pend y1.m) 16 != 0) = false := by rw [hb]; exact decide_eq_false hp
  clear hb; go_wp2
  first | go_end0 | refine bodyPost_ret (results_none rfl _ _ _) rfl ?_
  refine ⟨rfl, v2, ?_, M2.out⟩
  have q := S2.out
  have e1 : standS y = y2 := by unfold standS; rw [← EM.out, if_neg hp, Y2.out, Y1.out]
  rw [e1]
  exact q.mo
end
end Go.Proofs.YtngdogldgcgnjaaGreat
