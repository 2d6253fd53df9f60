/-
  What perform does, for every order: for every world; the processor is there.
-/
import Derived.Test.YtngdogldgcgnjaaGreatP6
import Derived.Test.YtngdogldgcgnjaaGreatP7
namespace Go.Proofs.YtngdogldgcgnjaaGreat
open Go.ChangeShapes Go.WideShapes Go.ChangeAt Go.RowKit
open Reg
set_option linter.unusedVariables false
set_option maxRecDepth 100000
section
variable {w : World} {P R M tb n : Nat} {v : Value} {y : Sy}
/-- What is known of every order that bytes begin. -/
def goodB (r : OpV) : Bool := decide (1 ≤ r.k) && decide (r.k ≤ 46) && decide (0 ≤ r.x) && decide (r.x < 8) && decide (0 ≤ r.y) && decide (r.y < 8) && decide (1 ≤ r.s) && decide (r.s ≤ 3) && decide (0 ≤ r.n) && decide (r.n < 256) && (!(r.k == 34 || r.k == 35) || r.s == 2) && (!(r.k == 4) || r.s == 1) && (!(r.k == 32 || r.k == 33) || decide (r.x < 4)) && (!(r.k == 28) || r.s == 1)
theorem plT_good : ∀ n : Fin 256, goodB (plT n.val) = true := by decide +kernel
theorem pfT_good : ∀ n : Fin 256, (goodB (pfT n.val) && (pfT n.val).s == 2) = true := by decide +kernel
structure Good (r : OpV) : Prop where
 k0 : 1 ≤ r.k
 k1 : r.k ≤ 46
 x0 : 0 ≤ r.x
 x1 : r.x < 8
 y0 : 0 ≤ r.y
 y1 : r.y < 8
 s0 : 1 ≤ r.s
 s1 : r.s ≤ 3
 n0 : 0 ≤ r.n
 n1 : r.n < 65536
 hi : r.k = 34 ∨ r.k = 35 → r.n < 256
 bad : r.k = 4 → r.s = 1
 far : r.k = 32 ∨ r.k = 33 → r.x < 4
theorem good_dec (a b c : Nat) (ha : a < 256) (hb : b < 256) (hc : c < 256) : Good (decF a b c) := by
 unfold decF
 split
 ·have h := pfT_good ⟨b, hb⟩
  simp only [goodB, Bool.and_eq_true, decide_eq_true_eq, Bool.or_eq_true, Bool.not_eq_true', beq_iff_eq, Bool.or_eq_false_iff, beq_eq_false_iff_ne] at h
  obtain ⟨⟨⟨⟨⟨⟨⟨⟨⟨⟨⟨⟨⟨⟨h1, h2⟩, h3⟩, h4⟩, h5⟩, h6⟩, h7⟩, h8⟩, h9⟩, h10⟩, h11⟩, h12⟩, h13⟩, h14⟩, h15⟩ := h
  exact ⟨h1, h2, h3, h4, h5, h6, h7, h8, h9, by omega, fun _ => h10, fun e => h12.resolve_left (fun h => h e), fun e => h13.resolve_left (fun h => e.elim h.1 h.2)⟩
 ·have h := plT_good ⟨a, ha⟩
  simp only [goodB, Bool.and_eq_true, decide_eq_true_eq, Bool.or_eq_true, Bool.not_eq_true', beq_iff_eq, Bool.or_eq_false_iff, beq_eq_false_iff_ne] at h
  obtain ⟨⟨⟨⟨⟨⟨⟨⟨⟨⟨⟨⟨⟨h1, h2⟩, h3⟩, h4⟩, h5⟩, h6⟩, h7⟩, h8⟩, h9⟩, h10⟩, h11⟩, h12⟩, h13⟩, h14⟩ := h
  unfold decN
  split
  ·exact ⟨h1, h2, h3, h4, h5, h6, h7, h8, by show 0 ≤ (b : Int); omega, by show (b : Int) < 65536; omega, fun _ => by show (b : Int) < 256; omega, fun e => h12.resolve_left (fun h => h e), fun e => h13.resolve_left (fun h => Or.elim (show (plT a).k = 32 ∨ (plT a).k = 33 from e) h.1 h.2)⟩
  ·split
   ·rename_i hs2 hs3
    exact ⟨h1, h2, h3, h4, h5, h6, h7, h8, by show 0 ≤ (c : Int) * 256 + b; omega, by show (c : Int) * 256 + b < 65536; omega, fun e => (h11.elim (fun h => Or.elim (show (plT a).k = 34 ∨ (plT a).k = 35 from e) (fun q => absurd q h.1) (fun q => absurd q h.2)) (fun h => absurd h hs2)), fun e => h12.resolve_left (fun h => h e), fun e => h13.resolve_left (fun h => Or.elim (show (plT a).k = 32 ∨ (plT a).k = 33 from e) h.1 h.2)⟩
   ·exact ⟨h1, h2, h3, h4, h5, h6, h7, h8, h9, by omega, fun _ => h10, fun e => h12.resolve_left (fun h => h e), fun e => h13.resolve_left (fun h => e.elim h.1 h.2)⟩
theorem PE.wide {D : Nat → Array Value} {C : Nat → Int → Value → Array Value} {f : FuncId} {args : Array Value} {r : Value} {k k' : Nat} {y' : Sy} (h : Calls Tryz.prog f args w (PE D C P R M tb v w r y' k)) (hk : k ≤ k') : Calls Tryz.prog f args w (PE D C P R M tb v w r y' k') :=
 h.mono fun _ _ ⟨a, v', s, m⟩ => ⟨a, v', s.mono hk, m⟩
set_option maxHeartbeats 4000000 in
theorem perf_p (h0 : Sys procD ramC w P R M tb v y n) (hn : n < 950000) (o : OpV) (g : Good o) (t : Bool) : Calls Tryz.prog 55 #[.pointer (some ⟨P, 0, none⟩), .agg #[.int .i64 o.k, .int .i64 o.x, .int .i64 o.y, .int .i64 o.s, .int .u16 o.n], .bool t] w (PE procD ramC P R M tb v w (.tuple #[]) (doneS o t y) (n + 4)) := by
 obtain ⟨k, x, z, s, nn⟩ := o
 obtain ⟨k0, k1, x0, x1, y0, y1, s0, s1, n0, n1, hi, bad, far⟩ := g
 dsimp only at k0 k1 x0 x1 y0 y1 s0 s1 n0 n1 hi bad far
 have hk : k = 1 ∨ k = 2 ∨ k = 3 ∨ k = 4 ∨ k = 5 ∨ k = 6 ∨ k = 7 ∨ k = 8 ∨ k = 9 ∨ k = 10 ∨ k = 11 ∨ k = 12 ∨ k = 13 ∨ k = 14 ∨ k = 15 ∨ k = 16 ∨ k = 17 ∨ k = 18 ∨ k = 19 ∨ k = 20 ∨ k = 21 ∨ k = 22 ∨ k = 23 ∨ k = 24 ∨ k = 25 ∨ k = 26 ∨ k = 27 ∨ k = 28 ∨ k = 29 ∨ k = 30 ∨ k = 31 ∨ k = 32 ∨ k = 33 ∨ k = 34 ∨ k = 35 ∨ k = 36 ∨ k = 37 ∨ k = 38 ∨ k = 39 ∨ k = 40 ∨ k = 41 ∨ k = 42 ∨ k = 43 ∨ k = 44 ∨ k = 45 ∨ k = 46 := by omega
 rcases hk with rfl | rfl | rfl | rfl | rfl | rfl | rfl | rfl | rfl | rfl | rfl | rfl | rfl | rfl | rfl | rfl | rfl | rfl | rfl | rfl | rfl | rfl | rfl | rfl | rfl | rfl | rfl | rfl | rfl | rfl | rfl | rfl | rfl | rfl | rfl | rfl | rfl | rfl | rfl | rfl | rfl | rfl | rfl | rfl | rfl | rfl
 ·exact PE.wide (perf_1 h0 hn x z s nn t) (by omega)
 ·exact PE.wide (perf_2 h0 hn x z s nn t) (by omega)
 ·exact PE.wide (perf_3 h0 hn x z s nn t) (by omega)
 ·obtain rfl : s = 1 := bad rfl
  exact PE.wide (perf_4 h0 hn x z nn t) (by omega)
 ·exact PE.wide (perf_5 h0 hn x z s nn t) (by omega)
 ·exact PE.wide (perf_6 h0 hn x z s nn t) (by omega)
 ·exact PE.wide (perf_7 h0 hn x z s nn t) (by omega)
 ·exact PE.wide (perf_8 h0 hn x z s nn t) (by omega)
 ·exact PE.wide (perf_9 h0 hn x z s nn n0 n1 t) (by omega)
 ·exact PE.wide (perf_10 h0 hn x z s nn x0 x1 t) (by omega)
 ·exact PE.wide (perf_11 h0 hn x z s nn x0 x1 t) (by omega)
 ·exact PE.wide (perf_12 h0 hn x z s nn t) (by omega)
 ·exact PE.wide (perf_13 h0 hn x z s nn t) (by omega)
 ·exact PE.wide (perf_14 h0 hn x z s nn t) (by omega)
 ·exact PE.wide (perf_15 h0 hn x z s nn t) (by omega)
 ·exact PE.wide (perf_16 h0 hn x z s nn t) (by omega)
 ·exact PE.wide (perf_17 h0 hn x z s nn t) (by omega)
 ·exact PE.wide (perf_18 h0 hn x z s nn t) (by omega)
 ·exact PE.wide (perf_19 h0 hn x z s nn t) (by omega)
 ·exact PE.wide (perf_20 h0 hn x z s nn t) (by omega)
 ·exact PE.wide (perf_21 h0 hn x z s nn t) (by omega)
 ·exact PE.wide (perf_22 h0 hn x z s nn t) (by omega)
 ·cases t
  ·exact PE.wide (perf_23_f h0 hn x z s nn) (by omega)
  ·exact PE.wide (perf_23_t h0 hn x z s nn) (by omega)
 ·cases t
  ·exact PE.wide (perf_24_f h0 hn x z s nn) (by omega)
  ·exact PE.wide (perf_24_t h0 hn x z s nn n0 n1) (by omega)
 ·cases t
  ·exact PE.wide (perf_25_f h0 hn x z s nn) (by omega)
  ·exact PE.wide (perf_25_t h0 hn x z s nn n0 n1) (by omega)
 ·by_cases hx : x = 4
  ·subst hx
   cases t
   ·exact PE.wide (perf_26_f4 h0 hn z s nn) (by omega)
   ·exact PE.wide (perf_26_t4 h0 hn z s nn) (by omega)
  ·have hx' : (x == 4) = false := by simpa using hx
   cases t
   ·have e : doneS ⟨26, x, z, s, nn⟩ false y = idle y := by
     show (bif x == 4 then y else idle y) = idle y
     rw [hx']; rfl
    rw [e]
    exact PE.wide (perf_26_f h0 hn x z s nn hx) (by omega)
   ·have e : doneS ⟨26, x, z, s, nn⟩ true y = leaveS (idle y) := by
     show leaveS (bif x == 4 then y else idle y) = leaveS (idle y)
     rw [hx']; rfl
    rw [e]
    exact PE.wide (perf_26_t h0 hn x z s nn hx) (by omega)
 ·exact PE.wide (perf_27 h0 hn x z s nn t) (by omega)
 ·exact PE.wide (perf_28 h0 hn x z s nn n0 n1 t) (by omega)
 ·exact PE.wide (perf_29 h0 hn x z s nn t) (by omega)
 ·exact PE.wide (perf_30 h0 hn x z s nn t) (by omega)
 ·exact PE.wide (perf_31 h0 hn x z s nn t) (by omega)
 ·exact PE.wide (perf_32 h0 hn x z s nn t) (by omega)
 ·exact PE.wide (perf_33 h0 hn x z s nn t) (by omega)
 ·exact PE.wide (perf_34 h0 hn x z s nn n0 (hi (by decide)) t) (by omega)
 ·exact PE.wide (perf_35 h0 hn x z s nn n0 (hi (by decide)) t) (by omega)
 ·exact PE.wide (perf_36 h0 hn x z s nn t) (by omega)
 ·exact PE.wide (perf_37 h0 hn x z s nn t) (by omega)
 ·exact PE.wide (perf_38 h0 hn x z s nn n0 n1 t) (by omega)
 ·exact PE.wide (perf_39 h0 hn x z s nn n0 n1 t) (by omega)
 ·exact PE.wide (perf_40 h0 hn x z s nn n0 n1 t) (by omega)
 ·exact PE.wide (perf_41 h0 hn x z s nn t) (by omega)
 ·exact PE.wide (perf_42 h0 hn x z s nn t) (by omega)
 ·exact PE.wide (perf_43 h0 hn x z s nn t) (by omega)
 ·exact PE.wide (perf_44 h0 hn x z s nn t) (by omega)
 ·exact PE.wide (perf_45 h0 hn x z s nn x0 x1 t) (by omega)
 ·exact PE.wide (perf_46 h0 hn x z s nn x0 x1 t) (by omega)
end
end Go.Proofs.YtngdogldgcgnjaaGreat
