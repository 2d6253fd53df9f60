/-
  Plain numbers for the laws of layer 1: what fits a kind, and what sums and differences are to each other; no condition. (Some texts in one.)
  (Some texts in one.)
-/
import Derived.Test.YtngdogldgcgnjaaGreatZ00
import Derived.Test.YtngdogldgcgnjaaGreatZ10
set_option maxRecDepth 100000
set_option maxHeartbeats 8000000
namespace Go.Proofs.YtngdogldgcgnjaaGreat.Alu
open Go.ChangeShapes Go.WideShapes Go.ChangeAt Go.RowKit
theorem u8_bd {a : Int} (h : (Lit.int .u8 a).wf = true) : 0 ≤ a ∧ a < 256 := by
 simp [Lit.wf, IntKind.min, IntKind.max, IntKind.bits, IntKind.signed] at h; omega
theorem u16_bd {a : Int} (h : (Lit.int .u16 a).wf = true) : 0 ≤ a ∧ a < 65536 := by
 simp [Lit.wf, IntKind.min, IntKind.max, IntKind.bits, IntKind.signed] at h; omega
theorem addR_bd (a b : Int) (c : Bool) : 0 ≤ addR a b c ∧ addR a b c < 256 := by unfold addR; omega
theorem subR_bd (a b : Int) (c : Bool) : 0 ≤ subR a b c ∧ subR a b c < 256 := by unfold subR; omega
theorem FL_b (z n h c : Bool) : 0 ≤ FL z n h c ∧ FL z n h c < 256 := by have := FL_bd z n h c; omega
theorem addF_bd (a b : Int) (c : Bool) : 0 ≤ addF a b c ∧ addF a b c < 256 := FL_b _ _ _ _
theorem subF_bd (a b : Int) (c : Bool) : 0 ≤ subF a b c ∧ subF a b c < 256 := FL_b _ _ _ _
theorem subR_addR (a b : Int) (c : Bool) (h1 : 0 ≤ a) (h2 : a < 256) : subR (addR a b c) b c = a := by unfold subR addR; omega
theorem FL_c (z n h c : Bool) : bits .and .u8 (FL z n h c) 16 = fl 16 c := by cases z <;> cases n <;> cases h <;> cases c <;> kernel_rfl
theorem FL_h (z n h c : Bool) : bits .and .u8 (FL z n h c) 32 = fl 32 h := by cases z <;> cases n <;> cases h <;> cases c <;> kernel_rfl
theorem back_c (a b : Int) (c : Bool) (h1 : 0 ≤ a) (h2 : a < 256) (h3 : 0 ≤ b) (h4 : b < 256) :
  bits .and .u8 (addF a b c) 16 = bits .and .u8 (subF (addR a b c) b c) 16 := by
 unfold addF subF
 rw [FL_c, FL_c]
 refine congrArg (fl 16) ?_
 have := fl_bd 1 (by decide) c
 unfold addR
 rw [Bool.eq_iff_iff]; simp; omega
theorem back_h (a b : Int) (c : Bool) :
  bits .and .u8 (addF a b c) 32 = bits .and .u8 (subF (addR a b c) b c) 32 := by
 unfold addF subF
 rw [FL_h, FL_h]
 refine congrArg (fl 32) ?_
 have := fl_bd 1 (by decide) c
 unfold addR
 rw [Bool.eq_iff_iff]; simp; omega
theorem subF_self (a : Int) : subF a a false = 192 := by
 have e : subR a a false = 0 := by unfold subR fl; simp
 unfold subF; rw [e]; simp [fl, FL]
theorem xor_self (a : Int) (h1 : 0 ≤ a) (h2 : a < 256) : bits .xor .u8 a a = 0 :=
 byte_all (P := fun a => bits .xor .u8 a a = 0) (by decide +kernel) a h1 h2
end Go.Proofs.YtngdogldgcgnjaaGreat.Alu
namespace Go.Proofs.YtngdogldgcgnjaaGreat
open Go.ChangeShapes Go.WideShapes Go.ChangeAt Go.RowKit
open Reg
set_option linter.unusedVariables false
section
variable {w : World} {P R M tb n : Nat} {v : Value} {y : Sy}
theorem sm {P' : Program} {f : FuncId} {args : Array Value} {w : World} {r : Value} (h : Calls P' f args w fun e w' => e = .returned r ∧ w = w') : Calls P' f args w fun e w' => e = .returned r ∧ w' = w := h.mono fun _ _ ⟨a, b⟩ => ⟨a, b.symm⟩
theorem bits_b (op : BinOp) (a b : Int) : 0 ≤ bits op .u8 a b ∧ bits op .u8 a b < 256 := by
 show 0 ≤ IntKind.u8.wrap _ ∧ IntKind.u8.wrap _ < 256
 rw [IntKind.wrap_u8]; omega
theorem turnR_b (k a f : Int) (h0 : 0 ≤ a) (h1 : a < 256) : 0 ≤ Alu.turnR k a f ∧ Alu.turnR k a f < 256 := by
 have h2 := Alu.fl_bd 1 (by decide) (Alu.cf f); have h3 := Alu.fl_bd 128 (by decide) (Alu.cf f)
 unfold Alu.turnR
 repeat (first | omega | split)
theorem daaR_b (a f : Int) : 0 ≤ Alu.daaR a f ∧ Alu.daaR a f < 256 := by unfold Alu.daaR; cases Alu.nf f <;> simp only [cond_true, cond_false] <;> omega
theorem shiftR_b (a e : Int) : 0 ≤ Alu.shiftR a e ∧ Alu.shiftR a e < 65536 := by unfold Alu.shiftR; omega
theorem Sys.ab {D : Nat → Array Value} {C : Nat → Int → Value → Array Value} (h : Sys D C w P R M tb v y n) : 0 ≤ y.s.r.a ∧ y.s.r.a < 256 := h.ok.1
theorem Sys.fb {D : Nat → Array Value} {C : Nat → Int → Value → Array Value} (h : Sys D C w P R M tb v y n) : 0 ≤ y.s.r.f ∧ y.s.r.f < 256 := h.ok.2.1
theorem Sys.cb {D : Nat → Array Value} {C : Nat → Int → Value → Array Value} (h : Sys D C w P R M tb v y n) : 0 ≤ y.s.r.c ∧ y.s.r.c < 256 := h.ok.2.2.2.1
theorem thru_2 (h0 : Sys procD ramC w P R M tb v y n) (hn : n < 980000) : Calls Tryz.prog 90 #[.pointer (some ⟨P, 0, none⟩), .int .i64 2] w (PE procD ramC P R M tb v w (.int .u16 (pairV y.s.r 2)) (pairS 2 (up (pairV y.s.r 2)) y) (n + 0)) := by
 have hw := up_w (pairV y.s.r 2); have hw' := dn_w (pairV y.s.r 2); have S0 := Lib.hid h0; have M0 := Lib.hid (PM.refl P R M tb v w); obtain ⟨hc, hf⟩ := h0.cp; clear h0; go_enter Tryz.func90, Tryz.ntmps90; go_wp2_with fail
 with_reducible refine (pair_p S0.out (by omega) 2).mono ?_
 rintro e w1 ⟨rfl, v1, s', m'⟩; have M1 := M0.tr m'; obtain ⟨y1, hy⟩ : ∃ q_, q_ = y := ⟨_, rfl⟩; rw [← hy] at s'; have Y1 := Lib.hid hy; clear hc hf; obtain ⟨hc, hf⟩ := s'.cp; have S1 := Lib.hid s'; clear s' m' hy; go_wp2_with fail
 with_reducible refine (setPair_p S1.out (by omega) 2 (up (pairV y.s.r 2)) (up_b _).1 (up_b _).2).mono ?_
 rintro e w2 ⟨rfl, v2, s', m'⟩; have M2 := M1.tr m'; obtain ⟨y2, hy⟩ : ∃ q_, q_ = pairS 2 (up (pairV y.s.r 2)) y1 := ⟨_, rfl⟩; rw [← hy] at s'; have Y2 := Lib.hid hy; clear hc hf; obtain ⟨hc, hf⟩ := s'.cp; have S2 := Lib.hid s'; clear s' m' hy; go_wp2; go_ret
 refine ⟨?_, v2, ?_, M2.out⟩
 ·skip
  rfl
 ·have q := S2.out
  have e := Y2.out.symm; subst e; have e := Y1.out.symm; subst e
  exact q
theorem thru_3 (h0 : Sys procD ramC w P R M tb v y n) (hn : n < 980000) : Calls Tryz.prog 90 #[.pointer (some ⟨P, 0, none⟩), .int .i64 3] w (PE procD ramC P R M tb v w (.int .u16 (pairV y.s.r 2)) (pairS 2 (dn (pairV y.s.r 2)) y) (n + 0)) := by
 have hw := up_w (pairV y.s.r 2); have hw' := dn_w (pairV y.s.r 2); have S0 := Lib.hid h0; have M0 := Lib.hid (PM.refl P R M tb v w); obtain ⟨hc, hf⟩ := h0.cp; clear h0; go_enter Tryz.func90, Tryz.ntmps90; go_wp2_with fail
 with_reducible refine (pair_p S0.out (by omega) 2).mono ?_
 rintro e w1 ⟨rfl, v1, s', m'⟩; have M1 := M0.tr m'; obtain ⟨y1, hy⟩ : ∃ q_, q_ = y := ⟨_, rfl⟩; rw [← hy] at s'; have Y1 := Lib.hid hy; clear hc hf; obtain ⟨hc, hf⟩ := s'.cp; have S1 := Lib.hid s'; clear s' m' hy; go_wp2_with fail
 with_reducible refine (setPair_p S1.out (by omega) 2 (dn (pairV y.s.r 2)) (dn_b _).1 (dn_b _).2).mono ?_
 rintro e w2 ⟨rfl, v2, s', m'⟩; have M2 := M1.tr m'; obtain ⟨y2, hy⟩ : ∃ q_, q_ = pairS 2 (dn (pairV y.s.r 2)) y1 := ⟨_, rfl⟩; rw [← hy] at s'; have Y2 := Lib.hid hy; clear hc hf; obtain ⟨hc, hf⟩ := s'.cp; have S2 := Lib.hid s'; clear s' m' hy; go_wp2; go_ret
 refine ⟨?_, v2, ?_, M2.out⟩
 ·skip
  rfl
 ·have q := S2.out
  have e := Y2.out.symm; subst e; have e := Y1.out.symm; subst e
  exact q
theorem thru_n (h0 : Sys procD ramC w P R M tb v y n) (hn : n < 980000) (x : Int) (h2 : (x == 2) = false) (h3 : (x == 3) = false) : Calls Tryz.prog 90 #[.pointer (some ⟨P, 0, none⟩), .int .i64 x] w (PE procD ramC P R M tb v w (.int .u16 (pairV y.s.r x)) (y) (n + 0)) := by
 have hw := up_w (pairV y.s.r 2); have hw' := dn_w (pairV y.s.r 2); have S0 := Lib.hid h0; have M0 := Lib.hid (PM.refl P R M tb v w); obtain ⟨hc, hf⟩ := h0.cp; clear h0; go_enter Tryz.func90, Tryz.ntmps90; go_wp2_with fail
 with_reducible refine (pair_p S0.out (by omega) 2).mono ?_
 rintro e w1 ⟨rfl, v1, s', m'⟩; have M1 := M0.tr m'; obtain ⟨y1, hy⟩ : ∃ q_, q_ = y := ⟨_, rfl⟩; rw [← hy] at s'; have Y1 := Lib.hid hy; clear hc hf; obtain ⟨hc, hf⟩ := s'.cp; have S1 := Lib.hid s'; clear s' m' hy; go_wp2_with fail
 with_reducible refine (pair_p S1.out (by omega) x).mono ?_
 rintro e w2 ⟨rfl, v2, s', m'⟩; have M2 := M1.tr m'; obtain ⟨y2, hy⟩ : ∃ q_, q_ = y1 := ⟨_, rfl⟩; rw [← hy] at s'; have Y2 := Lib.hid hy; clear hc hf; obtain ⟨hc, hf⟩ := s'.cp; have S2 := Lib.hid s'; clear s' m' hy; go_wp2; go_ret
 refine ⟨?_, v2, ?_, M2.out⟩
 ·rw [show y1.s.r = y.s.r by rw [Y1.out]]
  rfl
 ·have q := S2.out
  have e := Y2.out.symm; subst e; have e := Y1.out.symm; subst e
  exact q
theorem thru_p (h0 : Sys procD ramC w P R M tb v y n) (hn : n < 980000) (x : Int) : Calls Tryz.prog 90 #[.pointer (some ⟨P, 0, none⟩), .int .i64 x] w (PE procD ramC P R M tb v w (.int .u16 (thruV x y)) (thruS x y) (n + 0)) := by
 unfold thruV thruS
 by_cases h2 : x = 2
 ·subst h2
  rw [if_pos rfl, if_pos rfl]
  exact thru_2 h0 hn
 ·by_cases h3 : x = 3
  ·subst h3
   rw [if_neg (by decide), if_pos rfl, if_neg (by decide), if_pos rfl]
   exact thru_3 h0 hn
  ·rw [if_neg h2, if_neg h3, if_neg h2, if_neg h3]
   exact thru_n h0 hn x (by simpa using h2) (by simpa using h3)
theorem thruV_b {D : Nat → Array Value} {C : Nat → Int → Value → Array Value} (h : Sys D C w P R M tb v y n) (x : Int) : 0 ≤ thruV x y ∧ thruV x y < 65536 := by
 unfold thruV; repeat (first | exact pairV_b h.ok _ | split)
theorem addr_32 (h0 : Sys procD ramC w P R M tb v y n) (hn : n < 970000) (x z s nn : Int) : Calls Tryz.prog 81 #[.pointer (some ⟨P, 0, none⟩), .agg #[.int .i64 32, .int .i64 x, .int .i64 z, .int .i64 s, .int .u16 nn]] w (PE procD ramC P R M tb v w (.int .u16 (thruV x y)) (thruS x y) (n + 0)) := by
 obtain ⟨S0, M0, HO, NO⟩ := h0.beg #[.int .i64 32, .int .i64 x, .int .i64 z, .int .i64 s, .int .u16 nn] 44; obtain ⟨hc, hf⟩ := S0.out.cp; clear h0; go_enter Tryz.func81, Tryz.ntmps81; go_wp2_with fail; generalize w.alloc (.cells #[.int .i64 32, .int .i64 x, .int .i64 z, .int .i64 s, .int .u16 nn] 44) = w0 at S0 M0 HO hc hf ⊢; generalize w.heap.size = ob at HO NO ⊢; have ho := HO.out.2.1
 with_reducible refine (thru_p S0.out (by omega) x).mono ?_
 rintro e w1 ⟨rfl, v1, s', m'⟩; replace HO := m'.two HO NO; clear ho NO; obtain ⟨HO, NO⟩ := HO; have ho := HO.out.2.1; have M1 := M0.tr m'; obtain ⟨y1, hy⟩ : ∃ q_, q_ = thruS x y := ⟨_, rfl⟩; rw [← hy] at s'; have Y1 := Lib.hid hy; clear hc hf; obtain ⟨hc, hf⟩ := s'.cp; have S1 := Lib.hid s'; clear s' m' hy; go_wp2; go_ret
 refine ⟨rfl, v1, ?_, M1.out⟩
 have q := S1.out; have e := Y1.out.symm; subst e
 exact q.mo
theorem addr_33 (h0 : Sys procD ramC w P R M tb v y n) (hn : n < 970000) (x z s nn : Int) : Calls Tryz.prog 81 #[.pointer (some ⟨P, 0, none⟩), .agg #[.int .i64 33, .int .i64 x, .int .i64 z, .int .i64 s, .int .u16 nn]] w (PE procD ramC P R M tb v w (.int .u16 (thruV x y)) (thruS x y) (n + 0)) := by
 obtain ⟨S0, M0, HO, NO⟩ := h0.beg #[.int .i64 33, .int .i64 x, .int .i64 z, .int .i64 s, .int .u16 nn] 44; obtain ⟨hc, hf⟩ := S0.out.cp; clear h0; go_enter Tryz.func81, Tryz.ntmps81; go_wp2_with fail; generalize w.alloc (.cells #[.int .i64 33, .int .i64 x, .int .i64 z, .int .i64 s, .int .u16 nn] 44) = w0 at S0 M0 HO hc hf ⊢; generalize w.heap.size = ob at HO NO ⊢; have ho := HO.out.2.1
 with_reducible refine (thru_p S0.out (by omega) x).mono ?_
 rintro e w1 ⟨rfl, v1, s', m'⟩; replace HO := m'.two HO NO; clear ho NO; obtain ⟨HO, NO⟩ := HO; have ho := HO.out.2.1; have M1 := M0.tr m'; obtain ⟨y1, hy⟩ : ∃ q_, q_ = thruS x y := ⟨_, rfl⟩; rw [← hy] at s'; have Y1 := Lib.hid hy; clear hc hf; obtain ⟨hc, hf⟩ := s'.cp; have S1 := Lib.hid s'; clear s' m' hy; go_wp2; go_ret
 refine ⟨rfl, v1, ?_, M1.out⟩
 have q := S1.out; have e := Y1.out.symm; subst e
 exact q.mo
theorem addr_34 (h0 : Sys procD ramC w P R M tb v y n) (hn : n < 970000) (x z s nn : Int) (n0 : 0 ≤ nn) (n1 : nn < 256) : Calls Tryz.prog 81 #[.pointer (some ⟨P, 0, none⟩), .agg #[.int .i64 34, .int .i64 x, .int .i64 z, .int .i64 s, .int .u16 nn]] w (PE procD ramC P R M tb v w (.int .u16 (65280 + nn)) (y) (n + 0)) := by
 have hw : IntKind.u16.wrap (65280 + nn) = 65280 + nn := by rw [IntKind.wrap_u16]; omega
 obtain ⟨S0, M0, HO, NO⟩ := h0.beg #[.int .i64 34, .int .i64 x, .int .i64 z, .int .i64 s, .int .u16 nn] 44; obtain ⟨hc, hf⟩ := S0.out.cp; clear h0; go_enter Tryz.func81, Tryz.ntmps81; go_wp2; go_ret
 exact ⟨rfl, v, S0.out, M0.out⟩
theorem addr_35 (h0 : Sys procD ramC w P R M tb v y n) (hn : n < 970000) (x z s nn : Int) (n0 : 0 ≤ nn) (n1 : nn < 256) : Calls Tryz.prog 81 #[.pointer (some ⟨P, 0, none⟩), .agg #[.int .i64 35, .int .i64 x, .int .i64 z, .int .i64 s, .int .u16 nn]] w (PE procD ramC P R M tb v w (.int .u16 (65280 + nn)) (y) (n + 0)) := by
 have hw : IntKind.u16.wrap (65280 + nn) = 65280 + nn := by rw [IntKind.wrap_u16]; omega
 obtain ⟨S0, M0, HO, NO⟩ := h0.beg #[.int .i64 35, .int .i64 x, .int .i64 z, .int .i64 s, .int .u16 nn] 44; obtain ⟨hc, hf⟩ := S0.out.cp; clear h0; go_enter Tryz.func81, Tryz.ntmps81; go_wp2; go_ret
 exact ⟨rfl, v, S0.out, M0.out⟩
theorem addr_36 (h0 : Sys procD ramC w P R M tb v y n) (hn : n < 970000) (x z s nn : Int) : Calls Tryz.prog 81 #[.pointer (some ⟨P, 0, none⟩), .agg #[.int .i64 36, .int .i64 x, .int .i64 z, .int .i64 s, .int .u16 nn]] w (PE procD ramC P R M tb v w (.int .u16 (65280 + y.s.r.c)) (y) (n + 0)) := by
 have cb := h0.cb
 have hw : IntKind.u16.wrap (65280 + y.s.r.c) = 65280 + y.s.r.c := by rw [IntKind.wrap_u16]; omega
 obtain ⟨S0, M0, HO, NO⟩ := h0.beg #[.int .i64 36, .int .i64 x, .int .i64 z, .int .i64 s, .int .u16 nn] 44; obtain ⟨hc, hf⟩ := S0.out.cp; clear h0; go_enter Tryz.func81, Tryz.ntmps81; go_wp2; go_ret
 exact ⟨rfl, v, S0.out, M0.out⟩
theorem addr_37 (h0 : Sys procD ramC w P R M tb v y n) (hn : n < 970000) (x z s nn : Int) : Calls Tryz.prog 81 #[.pointer (some ⟨P, 0, none⟩), .agg #[.int .i64 37, .int .i64 x, .int .i64 z, .int .i64 s, .int .u16 nn]] w (PE procD ramC P R M tb v w (.int .u16 (65280 + y.s.r.c)) (y) (n + 0)) := by
 have cb := h0.cb
 have hw : IntKind.u16.wrap (65280 + y.s.r.c) = 65280 + y.s.r.c := by rw [IntKind.wrap_u16]; omega
 obtain ⟨S0, M0, HO, NO⟩ := h0.beg #[.int .i64 37, .int .i64 x, .int .i64 z, .int .i64 s, .int .u16 nn] 44; obtain ⟨hc, hf⟩ := S0.out.cp; clear h0; go_enter Tryz.func81, Tryz.ntmps81; go_wp2; go_ret
 exact ⟨rfl, v, S0.out, M0.out⟩
theorem addr_38 (h0 : Sys procD ramC w P R M tb v y n) (hn : n < 970000) (x z s nn : Int) : Calls Tryz.prog 81 #[.pointer (some ⟨P, 0, none⟩), .agg #[.int .i64 38, .int .i64 x, .int .i64 z, .int .i64 s, .int .u16 nn]] w (PE procD ramC P R M tb v w (.int .u16 nn) (y) (n + 0)) := by
 obtain ⟨S0, M0, HO, NO⟩ := h0.beg #[.int .i64 38, .int .i64 x, .int .i64 z, .int .i64 s, .int .u16 nn] 44; obtain ⟨hc, hf⟩ := S0.out.cp; clear h0; go_enter Tryz.func81, Tryz.ntmps81; go_wp2; go_ret
 exact ⟨rfl, v, S0.out, M0.out⟩
theorem addr_39 (h0 : Sys procD ramC w P R M tb v y n) (hn : n < 970000) (x z s nn : Int) : Calls Tryz.prog 81 #[.pointer (some ⟨P, 0, none⟩), .agg #[.int .i64 39, .int .i64 x, .int .i64 z, .int .i64 s, .int .u16 nn]] w (PE procD ramC P R M tb v w (.int .u16 nn) (y) (n + 0)) := by
 obtain ⟨S0, M0, HO, NO⟩ := h0.beg #[.int .i64 39, .int .i64 x, .int .i64 z, .int .i64 s, .int .u16 nn] 44; obtain ⟨hc, hf⟩ := S0.out.cp; clear h0; go_enter Tryz.func81, Tryz.ntmps81; go_wp2; go_ret
 exact ⟨rfl, v, S0.out, M0.out⟩
end
end Go.Proofs.YtngdogldgcgnjaaGreat
namespace Go.Proofs.YtngdogldgcgnjaaGreat
open Go.ChangeShapes Go.WideShapes Go.ChangeAt Go.RowKit
open Reg
set_option linter.unusedVariables false
section
variable {w : World} {P R M tb n : Nat} {v : Value} {y : Sy}
theorem and16n (f : Int) (h1 : 0 ≤ f) (h2 : f < 256) : (bits .and .u8 f 16 != 0) = Alu.cf f := by
 rw [Alu.and16 f h1 h2]; cases Alu.cf f <;> rfl
theorem sum_0 (h0 : Sys procD ramC w P R M tb v y n) (hn : n < 980000) (x : Int) (x0 : 0 ≤ x) (x1 : x < 256) : Calls Tryz.prog 91 #[.pointer (some ⟨P, 0, none⟩), .int .i64 0, .int .u8 x] w (PE procD ramC P R M tb v w (.tuple #[]) (setF (Alu.addF y.s.r.a x false) (setA (Alu.addR y.s.r.a x false) y)) (n + 0)) := by
 have ab := h0.ab; have fb := h0.fb; have hk := and16n y.s.r.f fb.1 fb.2; have S0 := Lib.hid h0; have M0 := Lib.hid (PM.refl P R M tb v w); obtain ⟨hc, hf⟩ := h0.cp; clear h0; go_enter Tryz.func91, Tryz.ntmps91; go_wp2_with fail
 with_reducible refine (kept_p S0.out (by omega) 16).mono ?_
 rintro e w1 ⟨rfl, v1, s', m'⟩; have M1 := M0.tr m'; obtain ⟨y1, hy⟩ : ∃ q_, q_ = y := ⟨_, rfl⟩; rw [← hy] at s'; have Y1 := Lib.hid hy; clear hc hf; obtain ⟨hc, hf⟩ := s'.cp; have S1 := Lib.hid s'; clear s' m' hy; have e := Y1.out.symm; subst e; have Q := Lib.hid (S1.out.stA (Alu.addR y.s.r.a x false) (Alu.addR_bd _ _ _).1 (Alu.addR_bd _ _ _).2); have Q2 := Lib.hid (Q.out.1.stF (Alu.addF y.s.r.a x false) (Alu.addF_bd _ _ _).1 (Alu.addF_bd _ _ _).2)
 go_wp2_with (go_at_call 108; (with_reducible refine (Alu.add_c _ _ _ (by omega) (by omega) (by omega) (by omega) _).mono ?_); rintro e w' ⟨rfl, rfl⟩)
 go_end0
 exact ⟨rfl, v1, Q2.out.1, (M1.out.trans Q.out.2).trans Q2.out.2⟩
theorem sum_1 (h0 : Sys procD ramC w P R M tb v y n) (hn : n < 980000) (x : Int) (x0 : 0 ≤ x) (x1 : x < 256) : Calls Tryz.prog 91 #[.pointer (some ⟨P, 0, none⟩), .int .i64 1, .int .u8 x] w (PE procD ramC P R M tb v w (.tuple #[]) (setF (Alu.addF y.s.r.a x (Alu.cf y.s.r.f)) (setA (Alu.addR y.s.r.a x (Alu.cf y.s.r.f)) y)) (n + 0)) := by
 have ab := h0.ab; have fb := h0.fb; have hk := and16n y.s.r.f fb.1 fb.2; have S0 := Lib.hid h0; have M0 := Lib.hid (PM.refl P R M tb v w); obtain ⟨hc, hf⟩ := h0.cp; clear h0; go_enter Tryz.func91, Tryz.ntmps91; go_wp2_with fail
 with_reducible refine (kept_p S0.out (by omega) 16).mono ?_
 rintro e w1 ⟨rfl, v1, s', m'⟩; have M1 := M0.tr m'; obtain ⟨y1, hy⟩ : ∃ q_, q_ = y := ⟨_, rfl⟩; rw [← hy] at s'; have Y1 := Lib.hid hy; clear hc hf; obtain ⟨hc, hf⟩ := s'.cp; have S1 := Lib.hid s'; clear s' m' hy; have e := Y1.out.symm; subst e; have Q := Lib.hid (S1.out.stA (Alu.addR y.s.r.a x (Alu.cf y.s.r.f)) (Alu.addR_bd _ _ _).1 (Alu.addR_bd _ _ _).2); have Q2 := Lib.hid (Q.out.1.stF (Alu.addF y.s.r.a x (Alu.cf y.s.r.f)) (Alu.addF_bd _ _ _).1 (Alu.addF_bd _ _ _).2)
 go_wp2_with (go_at_call 108; (with_reducible refine (Alu.add_c _ _ _ (by omega) (by omega) (by omega) (by omega) _).mono ?_); rintro e w' ⟨rfl, rfl⟩)
 go_end0
 exact ⟨rfl, v1, Q2.out.1, (M1.out.trans Q.out.2).trans Q2.out.2⟩
theorem sum_2 (h0 : Sys procD ramC w P R M tb v y n) (hn : n < 980000) (x : Int) (x0 : 0 ≤ x) (x1 : x < 256) : Calls Tryz.prog 91 #[.pointer (some ⟨P, 0, none⟩), .int .i64 2, .int .u8 x] w (PE procD ramC P R M tb v w (.tuple #[]) (setF (Alu.subF y.s.r.a x false) (setA (Alu.subR y.s.r.a x false) y)) (n + 0)) := by
 have ab := h0.ab; have fb := h0.fb; have hk := and16n y.s.r.f fb.1 fb.2; have S0 := Lib.hid h0; have M0 := Lib.hid (PM.refl P R M tb v w); obtain ⟨hc, hf⟩ := h0.cp; clear h0; go_enter Tryz.func91, Tryz.ntmps91; go_wp2_with fail
 with_reducible refine (kept_p S0.out (by omega) 16).mono ?_
 rintro e w1 ⟨rfl, v1, s', m'⟩; have M1 := M0.tr m'; obtain ⟨y1, hy⟩ : ∃ q_, q_ = y := ⟨_, rfl⟩; rw [← hy] at s'; have Y1 := Lib.hid hy; clear hc hf; obtain ⟨hc, hf⟩ := s'.cp; have S1 := Lib.hid s'; clear s' m' hy; have e := Y1.out.symm; subst e; have Q := Lib.hid (S1.out.stA (Alu.subR y.s.r.a x false) (Alu.subR_bd _ _ _).1 (Alu.subR_bd _ _ _).2); have Q2 := Lib.hid (Q.out.1.stF (Alu.subF y.s.r.a x false) (Alu.subF_bd _ _ _).1 (Alu.subF_bd _ _ _).2)
 go_wp2_with (go_at_call 109; (with_reducible refine (Alu.sub_c _ _ _ (by omega) (by omega) (by omega) (by omega) _).mono ?_); rintro e w' ⟨rfl, rfl⟩)
 go_end0
 exact ⟨rfl, v1, Q2.out.1, (M1.out.trans Q.out.2).trans Q2.out.2⟩
theorem sum_3 (h0 : Sys procD ramC w P R M tb v y n) (hn : n < 980000) (x : Int) (x0 : 0 ≤ x) (x1 : x < 256) : Calls Tryz.prog 91 #[.pointer (some ⟨P, 0, none⟩), .int .i64 3, .int .u8 x] w (PE procD ramC P R M tb v w (.tuple #[]) (setF (Alu.subF y.s.r.a x (Alu.cf y.s.r.f)) (setA (Alu.subR y.s.r.a x (Alu.cf y.s.r.f)) y)) (n + 0)) := by
 have ab := h0.ab; have fb := h0.fb; have hk := and16n y.s.r.f fb.1 fb.2; have S0 := Lib.hid h0; have M0 := Lib.hid (PM.refl P R M tb v w); obtain ⟨hc, hf⟩ := h0.cp; clear h0; go_enter Tryz.func91, Tryz.ntmps91; go_wp2_with fail
 with_reducible refine (kept_p S0.out (by omega) 16).mono ?_
 rintro e w1 ⟨rfl, v1, s', m'⟩; have M1 := M0.tr m'; obtain ⟨y1, hy⟩ : ∃ q_, q_ = y := ⟨_, rfl⟩; rw [← hy] at s'; have Y1 := Lib.hid hy; clear hc hf; obtain ⟨hc, hf⟩ := s'.cp; have S1 := Lib.hid s'; clear s' m' hy; have e := Y1.out.symm; subst e; have Q := Lib.hid (S1.out.stA (Alu.subR y.s.r.a x (Alu.cf y.s.r.f)) (Alu.subR_bd _ _ _).1 (Alu.subR_bd _ _ _).2); have Q2 := Lib.hid (Q.out.1.stF (Alu.subF y.s.r.a x (Alu.cf y.s.r.f)) (Alu.subF_bd _ _ _).1 (Alu.subF_bd _ _ _).2)
 go_wp2_with (go_at_call 109; (with_reducible refine (Alu.sub_c _ _ _ (by omega) (by omega) (by omega) (by omega) _).mono ?_); rintro e w' ⟨rfl, rfl⟩)
 go_end0
 exact ⟨rfl, v1, Q2.out.1, (M1.out.trans Q.out.2).trans Q2.out.2⟩
theorem sum_4 (h0 : Sys procD ramC w P R M tb v y n) (hn : n < 980000) (x : Int) (x0 : 0 ≤ x) (x1 : x < 256) : Calls Tryz.prog 91 #[.pointer (some ⟨P, 0, none⟩), .int .i64 4, .int .u8 x] w (PE procD ramC P R M tb v w (.tuple #[]) (setF (Alu.FL (bits .and .u8 y.s.r.a x == 0) false true false) (setA (bits .and .u8 y.s.r.a x) y)) (n + 0)) := by
 have ab := h0.ab; have fb := h0.fb; have hk := and16n y.s.r.f fb.1 fb.2; have S0 := Lib.hid h0; have M0 := Lib.hid (PM.refl P R M tb v w); obtain ⟨hc, hf⟩ := h0.cp; clear h0; go_enter Tryz.func91, Tryz.ntmps91; go_wp2_with fail
 with_reducible refine (kept_p S0.out (by omega) 16).mono ?_
 rintro e w1 ⟨rfl, v1, s', m'⟩; have M1 := M0.tr m'; obtain ⟨y1, hy⟩ : ∃ q_, q_ = y := ⟨_, rfl⟩; rw [← hy] at s'; have Y1 := Lib.hid hy; clear hc hf; obtain ⟨hc, hf⟩ := s'.cp; have S1 := Lib.hid s'; clear s' m' hy; have e := Y1.out.symm; subst e; have Q := Lib.hid (S1.out.stA (bits .and .u8 y.s.r.a x) (bits_b _ _ _).1 (bits_b _ _ _).2); have Q2 := Lib.hid (Q.out.1.stF (Alu.FL (bits .and .u8 y.s.r.a x == 0) false true false) (Alu.FL_b _ _ _ _).1 (Alu.FL_b _ _ _ _).2)
 go_wp2_with (go_at_call 110; (with_reducible refine (Alu.and_c _ _ _).mono ?_); rintro e w' ⟨rfl, rfl⟩)
 go_end0
 exact ⟨rfl, v1, Q2.out.1, (M1.out.trans Q.out.2).trans Q2.out.2⟩
theorem sum_5 (h0 : Sys procD ramC w P R M tb v y n) (hn : n < 980000) (x : Int) (x0 : 0 ≤ x) (x1 : x < 256) : Calls Tryz.prog 91 #[.pointer (some ⟨P, 0, none⟩), .int .i64 5, .int .u8 x] w (PE procD ramC P R M tb v w (.tuple #[]) (setF (Alu.FL (bits .xor .u8 y.s.r.a x == 0) false false false) (setA (bits .xor .u8 y.s.r.a x) y)) (n + 0)) := by
 have ab := h0.ab; have fb := h0.fb; have hk := and16n y.s.r.f fb.1 fb.2; have S0 := Lib.hid h0; have M0 := Lib.hid (PM.refl P R M tb v w); obtain ⟨hc, hf⟩ := h0.cp; clear h0; go_enter Tryz.func91, Tryz.ntmps91; go_wp2_with fail
 with_reducible refine (kept_p S0.out (by omega) 16).mono ?_
 rintro e w1 ⟨rfl, v1, s', m'⟩; have M1 := M0.tr m'; obtain ⟨y1, hy⟩ : ∃ q_, q_ = y := ⟨_, rfl⟩; rw [← hy] at s'; have Y1 := Lib.hid hy; clear hc hf; obtain ⟨hc, hf⟩ := s'.cp; have S1 := Lib.hid s'; clear s' m' hy; have e := Y1.out.symm; subst e; have Q := Lib.hid (S1.out.stA (bits .xor .u8 y.s.r.a x) (bits_b _ _ _).1 (bits_b _ _ _).2); have Q2 := Lib.hid (Q.out.1.stF (Alu.FL (bits .xor .u8 y.s.r.a x == 0) false false false) (Alu.FL_b _ _ _ _).1 (Alu.FL_b _ _ _ _).2)
 go_wp2_with (go_at_call 111; (with_reducible refine (Alu.xor_c _ _ _).mono ?_); rintro e w' ⟨rfl, rfl⟩)
 go_end0
 exact ⟨rfl, v1, Q2.out.1, (M1.out.trans Q.out.2).trans Q2.out.2⟩
theorem sum_6 (h0 : Sys procD ramC w P R M tb v y n) (hn : n < 980000) (x : Int) (x0 : 0 ≤ x) (x1 : x < 256) : Calls Tryz.prog 91 #[.pointer (some ⟨P, 0, none⟩), .int .i64 6, .int .u8 x] w (PE procD ramC P R M tb v w (.tuple #[]) (setF (Alu.FL (bits .or .u8 y.s.r.a x == 0) false false false) (setA (bits .or .u8 y.s.r.a x) y)) (n + 0)) := by
 have ab := h0.ab; have fb := h0.fb; have hk := and16n y.s.r.f fb.1 fb.2; have S0 := Lib.hid h0; have M0 := Lib.hid (PM.refl P R M tb v w); obtain ⟨hc, hf⟩ := h0.cp; clear h0; go_enter Tryz.func91, Tryz.ntmps91; go_wp2_with fail
 with_reducible refine (kept_p S0.out (by omega) 16).mono ?_
 rintro e w1 ⟨rfl, v1, s', m'⟩; have M1 := M0.tr m'; obtain ⟨y1, hy⟩ : ∃ q_, q_ = y := ⟨_, rfl⟩; rw [← hy] at s'; have Y1 := Lib.hid hy; clear hc hf; obtain ⟨hc, hf⟩ := s'.cp; have S1 := Lib.hid s'; clear s' m' hy; have e := Y1.out.symm; subst e; have Q := Lib.hid (S1.out.stA (bits .or .u8 y.s.r.a x) (bits_b _ _ _).1 (bits_b _ _ _).2); have Q2 := Lib.hid (Q.out.1.stF (Alu.FL (bits .or .u8 y.s.r.a x == 0) false false false) (Alu.FL_b _ _ _ _).1 (Alu.FL_b _ _ _ _).2)
 go_wp2_with (go_at_call 112; (with_reducible refine (Alu.or_c _ _ _).mono ?_); rintro e w' ⟨rfl, rfl⟩)
 go_end0
 exact ⟨rfl, v1, Q2.out.1, (M1.out.trans Q.out.2).trans Q2.out.2⟩
theorem sum_7 (h0 : Sys procD ramC w P R M tb v y n) (hn : n < 980000) (x : Int) (x0 : 0 ≤ x) (x1 : x < 256) : Calls Tryz.prog 91 #[.pointer (some ⟨P, 0, none⟩), .int .i64 7, .int .u8 x] w (PE procD ramC P R M tb v w (.tuple #[]) (setF (Alu.subF y.s.r.a x false) y) (n + 0)) := by
 have ab := h0.ab; have fb := h0.fb; have hk := and16n y.s.r.f fb.1 fb.2; have S0 := Lib.hid h0; have M0 := Lib.hid (PM.refl P R M tb v w); obtain ⟨hc, hf⟩ := h0.cp; clear h0; go_enter Tryz.func91, Tryz.ntmps91; go_wp2_with fail
 with_reducible refine (kept_p S0.out (by omega) 16).mono ?_
 rintro e w1 ⟨rfl, v1, s', m'⟩; have M1 := M0.tr m'; obtain ⟨y1, hy⟩ : ∃ q_, q_ = y := ⟨_, rfl⟩; rw [← hy] at s'; have Y1 := Lib.hid hy; clear hc hf; obtain ⟨hc, hf⟩ := s'.cp; have S1 := Lib.hid s'; clear s' m' hy; have e := Y1.out.symm; subst e; have Q2 := Lib.hid (S1.out.stF (Alu.subF y.s.r.a x false) (Alu.subF_bd _ _ _).1 (Alu.subF_bd _ _ _).2)
 go_wp2_with (go_at_call 109; (with_reducible refine (Alu.sub_c _ _ _ (by omega) (by omega) (by omega) (by omega) _).mono ?_); rintro e w' ⟨rfl, rfl⟩)
 go_end0
 exact ⟨rfl, v1, Q2.out.1, M1.out.trans Q2.out.2⟩
theorem sum_p (h0 : Sys procD ramC w P R M tb v y n) (hn : n < 980000) (k x : Int) (k0 : 0 ≤ k) (k1 : k < 8) (x0 : 0 ≤ x) (x1 : x < 256) : Calls Tryz.prog 91 #[.pointer (some ⟨P, 0, none⟩), .int .i64 k, .int .u8 x] w (PE procD ramC P R M tb v w (.tuple #[]) (sumS k x y) (n + 0)) := by
 rcases (by omega : k = 0 ∨ k = 1 ∨ k = 2 ∨ k = 3 ∨ k = 4 ∨ k = 5 ∨ k = 6 ∨ k = 7) with rfl | rfl | rfl | rfl | rfl | rfl | rfl | rfl
 ·exact sum_0 h0 hn x x0 x1
 ·exact sum_1 h0 hn x x0 x1
 ·exact sum_2 h0 hn x x0 x1
 ·exact sum_3 h0 hn x x0 x1
 ·exact sum_4 h0 hn x x0 x1
 ·exact sum_5 h0 hn x x0 x1
 ·exact sum_6 h0 hn x x0 x1
 ·exact sum_7 h0 hn x x0 x1
end
end Go.Proofs.YtngdogldgcgnjaaGreat
