/-
  Plain numbers for the laws of layer 1: what fits a kind, and what sums and differences are to each other; no condition. (Some texts in one.)
-/
import Derived.Test.YtngdogldgcgnjaaGreatAlu
import Derived.Test.YtngdogldgcgnjaaGreatP3
namespace Go.Proofs.YtngdogldgcgnjaaGreat.Alu
open Go.ChangeShapes Go.WideShapes Go.ChangeAt Go.RowKit
theorem u8_bd {a : Int} (h : (Lit.int .u8 a).wf = true) : 0 ≤ a ∧ a < 256 := by
 simp [Lit.wf, IntKind.min, IntKind.max, IntKind.bits, IntKind.signed] at h; omega
theorem u16_bd {a : Int} (h : (Lit.int .u16 a).wf = true) : 0 ≤ a ∧ a < 65536 := by
 simp [Lit.wf, IntKind.min, IntKind.max, IntKind.bits, IntKind.signed] at h; omega
theorem addR_bd (a b : Int) (c : Bool) : 0 ≤ addR a b c ∧ addR a b c < 256 := by unfold addR; omega
theorem subR_bd (a b : Int) (c : Bool) : 0 ≤ subR a b c ∧ subR a b c < 256 := by unfold subR; omega
theorem FL_b (z n h c : Bool) : 0 ≤ FL z n h c ∧ FL z n h c < 256 := by have := FL_bd z n h c; omega
theorem addF_bd (a b : Int) (c : Bool) : 0 ≤ addF a b c ∧ addF a b c < 256 := FL_b _ _ _ _
theorem subF_bd (a b : Int) (c : Bool) : 0 ≤ subF a b c ∧ subF a b c < 256 := FL_b _ _ _ _
theorem subR_addR (a b : Int) (c : Bool) (h1 : 0 ≤ a) (h2 : a < 256) : subR (addR a b c) b c = a := by unfold subR addR; omega
theorem FL_c (z n h c : Bool) : bits .and .u8 (FL z n h c) 16 = fl 16 c := by cases z <;> cases n <;> cases h <;> cases c <;> kernel_rfl
theorem FL_h (z n h c : Bool) : bits .and .u8 (FL z n h c) 32 = fl 32 h := by cases z <;> cases n <;> cases h <;> cases c <;> kernel_rfl
theorem back_c (a b : Int) (c : Bool) (h1 : 0 ≤ a) (h2 : a < 256) (h3 : 0 ≤ b) (h4 : b < 256) :
  bits .and .u8 (addF a b c) 16 = bits .and .u8 (subF (addR a b c) b c) 16 := by
 unfold addF subF
 rw [FL_c, FL_c]
 refine congrArg (fl 16) ?_
 have := fl_bd 1 (by decide) c
 unfold addR
 rw [Bool.eq_iff_iff]; simp; omega
theorem back_h (a b : Int) (c : Bool) :
  bits .and .u8 (addF a b c) 32 = bits .and .u8 (subF (addR a b c) b c) 32 := by
 unfold addF subF
 rw [FL_h, FL_h]
 refine congrArg (fl 32) ?_
 have := fl_bd 1 (by decide) c
 unfold addR
 rw [Bool.eq_iff_iff]; simp; omega
theorem subF_self (a : Int) : subF a a false = 192 := by
 have e : subR a a false = 0 := by unfold subR fl; simp
 unfold subF; rw [e]; simp [fl, FL]
theorem xor_self (a : Int) (h1 : 0 ≤ a) (h2 : a < 256) : bits .xor .u8 a a = 0 :=
 byte_all (P := fun a => bits .xor .u8 a a = 0) (by decide +kernel) a h1 h2
end Go.Proofs.YtngdogldgcgnjaaGreat.Alu
namespace Go.Proofs.YtngdogldgcgnjaaGreat
open Go.ChangeShapes Go.WideShapes Go.ChangeAt Go.RowKit
open Reg
set_option linter.unusedVariables false
set_option maxRecDepth 100000
section
variable {w : World} {P R M tb n : Nat} {v : Value} {y : Sy}
theorem sm {P' : Program} {f : FuncId} {args : Array Value} {w : World} {r : Value} (h : Calls P' f args w fun e w' => e = .returned r ∧ w = w') : Calls P' f args w fun e w' => e = .returned r ∧ w' = w := h.mono fun _ _ ⟨a, b⟩ => ⟨a, b.symm⟩
theorem bits_b (op : BinOp) (a b : Int) : 0 ≤ bits op .u8 a b ∧ bits op .u8 a b < 256 := by
 show 0 ≤ IntKind.u8.wrap _ ∧ IntKind.u8.wrap _ < 256
 rw [IntKind.wrap_u8]; omega
theorem turnR_b (k a f : Int) (h0 : 0 ≤ a) (h1 : a < 256) : 0 ≤ Alu.turnR k a f ∧ Alu.turnR k a f < 256 := by
 have h2 := Alu.fl_bd 1 (by decide) (Alu.cf f)
 have h3 := Alu.fl_bd 128 (by decide) (Alu.cf f)
 unfold Alu.turnR
 repeat (first | omega | split)
theorem daaR_b (a f : Int) : 0 ≤ Alu.daaR a f ∧ Alu.daaR a f < 256 := by unfold Alu.daaR; cases Alu.nf f <;> simp only [cond_true, cond_false] <;> omega
theorem shiftR_b (a e : Int) : 0 ≤ Alu.shiftR a e ∧ Alu.shiftR a e < 65536 := by unfold Alu.shiftR; omega
theorem Sys.ab {D : Nat → Array Value} {C : Nat → Int → Value → Array Value} (h : Sys D C w P R M tb v y n) : 0 ≤ y.s.r.a ∧ y.s.r.a < 256 := h.ok.1
theorem Sys.fb {D : Nat → Array Value} {C : Nat → Int → Value → Array Value} (h : Sys D C w P R M tb v y n) : 0 ≤ y.s.r.f ∧ y.s.r.f < 256 := h.ok.2.1
theorem Sys.cb {D : Nat → Array Value} {C : Nat → Int → Value → Array Value} (h : Sys D C w P R M tb v y n) : 0 ≤ y.s.r.c ∧ y.s.r.c < 256 := h.ok.2.2.2.1
set_option maxHeartbeats 2000000 in
theorem thru_2 (h0 : Sys procD ramC w P R M tb v y n) (hn : n < 980000) : Calls Tryz.prog 90 #[.pointer (some ⟨P, 0, none⟩), .int .i64 2] w (PE procD ramC P R M tb v w (.int .u16 (pairV y.s.r 2)) (pairS 2 (up (pairV y.s.r 2)) y) (n + 0)) := by
 have hw := up_w (pairV y.s.r 2)
 have hw' := dn_w (pairV y.s.r 2)
 have S0 := Lib.hid h0
 have M0 := Lib.hid (PM.refl P R M tb v w)
 obtain ⟨hc, hf⟩ := h0.cp
 clear h0
 go_enter Tryz.func90, Tryz.ntmps90
 go_wp2_with fail
 with_reducible refine (pair_p S0.out (by omega) 2).mono ?_
 rintro e w1 ⟨rfl, v1, s', m'⟩
 have M1 := Lib.hid (M0.out.trans m')
 obtain ⟨y1, hy⟩ : ∃ q_, q_ = y := ⟨_, rfl⟩
 rw [← hy] at s'
 have Y1 := Lib.hid hy
 clear hc hf
 obtain ⟨hc, hf⟩ := s'.cp
 have S1 := Lib.hid s'
 clear s' m' hy
 go_wp2_with fail
 with_reducible refine (setPair_p S1.out (by omega) 2 (up (pairV y.s.r 2)) (up_b _).1 (up_b _).2).mono ?_
 rintro e w2 ⟨rfl, v2, s', m'⟩
 have M2 := Lib.hid (M1.out.trans m')
 obtain ⟨y2, hy⟩ : ∃ q_, q_ = pairS 2 (up (pairV y.s.r 2)) y1 := ⟨_, rfl⟩
 rw [← hy] at s'
 have Y2 := Lib.hid hy
 clear hc hf
 obtain ⟨hc, hf⟩ := s'.cp
 have S2 := Lib.hid s'
 clear s' m' hy
 go_wp2
 go_ret
 refine ⟨?_, v2, ?_, M2.out⟩
 ·skip
  rfl
 ·have q := S2.out
  have e := Y2.out.symm
  subst e
  have e := Y1.out.symm
  subst e
  exact q
set_option maxHeartbeats 2000000 in
theorem thru_3 (h0 : Sys procD ramC w P R M tb v y n) (hn : n < 980000) : Calls Tryz.prog 90 #[.pointer (some ⟨P, 0, none⟩), .int .i64 3] w (PE procD ramC P R M tb v w (.int .u16 (pairV y.s.r 2)) (pairS 2 (dn (pairV y.s.r 2)) y) (n + 0)) := by
 have hw := up_w (pairV y.s.r 2)
 have hw' := dn_w (pairV y.s.r 2)
 have S0 := Lib.hid h0
 have M0 := Lib.hid (PM.refl P R M tb v w)
 obtain ⟨hc, hf⟩ := h0.cp
 clear h0
 go_enter Tryz.func90, Tryz.ntmps90
 go_wp2_with fail
 with_reducible refine (pair_p S0.out (by omega) 2).mono ?_
 rintro e w1 ⟨rfl, v1, s', m'⟩
 have M1 := Lib.hid (M0.out.trans m')
 obtain ⟨y1, hy⟩ : ∃ q_, q_ = y := ⟨_, rfl⟩
 rw [← hy] at s'
 have Y1 := Lib.hid hy
 clear hc hf
 obtain ⟨hc, hf⟩ := s'.cp
 have S1 := Lib.hid s'
 clear s' m' hy
 go_wp2_with fail
 with_reducible refine (setPair_p S1.out (by omega) 2 (dn (pairV y.s.r 2)) (dn_b _).1 (dn_b _).2).mono ?_
 rintro e w2 ⟨rfl, v2, s', m'⟩
 have M2 := Lib.hid (M1.out.trans m')
 obtain ⟨y2, hy⟩ : ∃ q_, q_ = pairS 2 (dn (pairV y.s.r 2)) y1 := ⟨_, rfl⟩
 rw [← hy] at s'
 have Y2 := Lib.hid hy
 clear hc hf
 obtain ⟨hc, hf⟩ := s'.cp
 have S2 := Lib.hid s'
 clear s' m' hy
 go_wp2
 go_ret
 refine ⟨?_, v2, ?_, M2.out⟩
 ·skip
  rfl
 ·have q := S2.out
  have e := Y2.out.symm
  subst e
  have e := Y1.out.symm
  subst e
  exact q
set_option maxHeartbeats 2000000 in
theorem thru_n (h0 : Sys procD ramC w P R M tb v y n) (hn : n < 980000) (x : Int) (h2 : (x == 2) = false) (h3 : (x == 3) = false) : Calls Tryz.prog 90 #[.pointer (some ⟨P, 0, none⟩), .int .i64 x] w (PE procD ramC P R M tb v w (.int .u16 (pairV y.s.r x)) (y) (n + 0)) := by
 have hw := up_w (pairV y.s.r 2)
 have hw' := dn_w (pairV y.s.r 2)
 have S0 := Lib.hid h0
 have M0 := Lib.hid (PM.refl P R M tb v w)
 obtain ⟨hc, hf⟩ := h0.cp
 clear h0
 go_enter Tryz.func90, Tryz.ntmps90
 go_wp2_with fail
 with_reducible refine (pair_p S0.out (by omega) 2).mono ?_
 rintro e w1 ⟨rfl, v1, s', m'⟩
 have M1 := Lib.hid (M0.out.trans m')
 obtain ⟨y1, hy⟩ : ∃ q_, q_ = y := ⟨_, rfl⟩
 rw [← hy] at s'
 have Y1 := Lib.hid hy
 clear hc hf
 obtain ⟨hc, hf⟩ := s'.cp
 have S1 := Lib.hid s'
 clear s' m' hy
 go_wp2_with fail
 with_reducible refine (pair_p S1.out (by omega) x).mono ?_
 rintro e w2 ⟨rfl, v2, s', m'⟩
 have M2 := Lib.hid (M1.out.trans m')
 obtain ⟨y2, hy⟩ : ∃ q_, q_ = y1 := ⟨_, rfl⟩
 rw [← hy] at s'
 have Y2 := Lib.hid hy
 clear hc hf
 obtain ⟨hc, hf⟩ := s'.cp
 have S2 := Lib.hid s'
 clear s' m' hy
 go_wp2
 go_ret
 refine ⟨?_, v2, ?_, M2.out⟩
 ·rw [show y1.s.r = y.s.r by rw [Y1.out]]
  rfl
 ·have q := S2.out
  have e := Y2.out.symm
  subst e
  have e := Y1.out.symm
  subst e
  exact q
theorem thru_p (h0 : Sys procD ramC w P R M tb v y n) (hn : n < 980000) (x : Int) : Calls Tryz.prog 90 #[.pointer (some ⟨P, 0, none⟩), .int .i64 x] w (PE procD ramC P R M tb v w (.int .u16 (thruV x y)) (thruS x y) (n + 0)) := by
 unfold thruV thruS
 by_cases h2 : x = 2
 ·subst h2
  rw [if_pos rfl, if_pos rfl]
  exact thru_2 h0 hn
 ·by_cases h3 : x = 3
  ·subst h3
   rw [if_neg (by decide), if_pos rfl, if_neg (by decide), if_pos rfl]
   exact thru_3 h0 hn
  ·rw [if_neg h2, if_neg h3, if_neg h2, if_neg h3]
   exact thru_n h0 hn x (by simpa using h2) (by simpa using h3)
theorem thruV_b {D : Nat → Array Value} {C : Nat → Int → Value → Array Value} (h : Sys D C w P R M tb v y n) (x : Int) : 0 ≤ thruV x y ∧ thruV x y < 65536 := by
 unfold thruV; repeat (first | exact pairV_b h.ok _ | split)
set_option maxHeartbeats 2000000 in
theorem addr_32 (h0 : Sys procD ramC w P R M tb v y n) (hn : n < 970000) (x z s nn : Int) : Calls Tryz.prog 81 #[.pointer (some ⟨P, 0, none⟩), .agg #[.int .i64 32, .int .i64 x, .int .i64 z, .int .i64 s, .int .u16 nn]] w (PE procD ramC P R M tb v w (.int .u16 (thruV x y)) (thruS x y) (n + 0)) := by
 have S0 := Lib.hid (h0.below (own1 w (.cells #[.int .i64 32, .int .i64 x, .int .i64 z, .int .i64 s, .int .u16 nn] 44)))
 have M0 := Lib.hid (show PM P R M tb v w v (w.alloc (.cells #[.int .i64 32, .int .i64 x, .int .i64 z, .int .i64 s, .int .u16 nn] 44)) from PM.of (own1 w (.cells #[.int .i64 32, .int .i64 x, .int .i64 z, .int .i64 s, .int .u16 nn] 44)))
 have HO := Lib.hid (Has.new w #[.int .i64 32, .int .i64 x, .int .i64 z, .int .i64 s, .int .u16 nn] 44)
 have NO := Lib.hid (h0.new (Nat.le_refl w.heap.size))
 obtain ⟨hc, hf⟩ := S0.out.cp
 clear h0
 go_enter Tryz.func81, Tryz.ntmps81
 go_wp2_with fail
 generalize w.alloc (.cells #[.int .i64 32, .int .i64 x, .int .i64 z, .int .i64 s, .int .u16 nn] 44) = w0 at S0 M0 HO hc hf ⊢
 generalize w.heap.size = ob at HO NO ⊢
 have ho := HO.out.2.1
 with_reducible refine (thru_p S0.out (by omega) x).mono ?_
 rintro e w1 ⟨rfl, v1, s', m'⟩
 have HO' := Lib.hid (m'.has HO.out NO.out)
 have NO' := Lib.hid (m'.far HO.out.1 NO.out)
 clear ho HO NO
 have HO := HO'
 have NO := NO'
 clear HO' NO'
 have ho := HO.out.2.1
 have M1 := Lib.hid (M0.out.trans m')
 obtain ⟨y1, hy⟩ : ∃ q_, q_ = thruS x y := ⟨_, rfl⟩
 rw [← hy] at s'
 have Y1 := Lib.hid hy
 clear hc hf
 obtain ⟨hc, hf⟩ := s'.cp
 have S1 := Lib.hid s'
 clear s' m' hy
 go_wp2
 go_ret
 refine ⟨rfl, v1, ?_, M1.out⟩
 have q := S1.out
 have e := Y1.out.symm
 subst e
 exact Sys.mono (n' := n + 0) q (by omega)
set_option maxHeartbeats 2000000 in
theorem addr_33 (h0 : Sys procD ramC w P R M tb v y n) (hn : n < 970000) (x z s nn : Int) : Calls Tryz.prog 81 #[.pointer (some ⟨P, 0, none⟩), .agg #[.int .i64 33, .int .i64 x, .int .i64 z, .int .i64 s, .int .u16 nn]] w (PE procD ramC P R M tb v w (.int .u16 (thruV x y)) (thruS x y) (n + 0)) := by
 have S0 := Lib.hid (h0.below (own1 w (.cells #[.int .i64 33, .int .i64 x, .int .i64 z, .int .i64 s, .int .u16 nn] 44)))
 have M0 := Lib.hid (show PM P R M tb v w v (w.alloc (.cells #[.int .i64 33, .int .i64 x, .int .i64 z, .int .i64 s, .int .u16 nn] 44)) from PM.of (own1 w (.cells #[.int .i64 33, .int .i64 x, .int .i64 z, .int .i64 s, .int .u16 nn] 44)))
 have HO := Lib.hid (Has.new w #[.int .i64 33, .int .i64 x, .int .i64 z, .int .i64 s, .int .u16 nn] 44)
 have NO := Lib.hid (h0.new (Nat.le_refl w.heap.size))
 obtain ⟨hc, hf⟩ := S0.out.cp
 clear h0
 go_enter Tryz.func81, Tryz.ntmps81
 go_wp2_with fail
 generalize w.alloc (.cells #[.int .i64 33, .int .i64 x, .int .i64 z, .int .i64 s, .int .u16 nn] 44) = w0 at S0 M0 HO hc hf ⊢
 generalize w.heap.size = ob at HO NO ⊢
 have ho := HO.out.2.1
 with_reducible refine (thru_p S0.out (by omega) x).mono ?_
 rintro e w1 ⟨rfl, v1, s', m'⟩
 have HO' := Lib.hid (m'.has HO.out NO.out)
 have NO' := Lib.hid (m'.far HO.out.1 NO.out)
 clear ho HO NO
 have HO := HO'
 have NO := NO'
 clear HO' NO'
 have ho := HO.out.2.1
 have M1 := Lib.hid (M0.out.trans m')
 obtain ⟨y1, hy⟩ : ∃ q_, q_ = thruS x y := ⟨_, rfl⟩
 rw [← hy] at s'
 have Y1 := Lib.hid hy
 clear hc hf
 obtain ⟨hc, hf⟩ := s'.cp
 have S1 := Lib.hid s'
 clear s' m' hy
 go_wp2
 go_ret
 refine ⟨rfl, v1, ?_, M1.out⟩
 have q := S1.out
 have e := Y1.out.symm
 subst e
 exact Sys.mono (n' := n + 0) q (by omega)
set_option maxHeartbeats 2000000 in
theorem addr_34 (h0 : Sys procD ramC w P R M tb v y n) (hn : n < 970000) (x z s nn : Int) (n0 : 0 ≤ nn) (n1 : nn < 256) : Calls Tryz.prog 81 #[.pointer (some ⟨P, 0, none⟩), .agg #[.int .i64 34, .int .i64 x, .int .i64 z, .int .i64 s, .int .u16 nn]] w (PE procD ramC P R M tb v w (.int .u16 (65280 + nn)) (y) (n + 0)) := by
 have hw : IntKind.u16.wrap (65280 + nn) = 65280 + nn := by rw [IntKind.wrap_u16]; omega
 have S0 := Lib.hid (h0.below (own1 w (.cells #[.int .i64 34, .int .i64 x, .int .i64 z, .int .i64 s, .int .u16 nn] 44)))
 have M0 := Lib.hid (show PM P R M tb v w v (w.alloc (.cells #[.int .i64 34, .int .i64 x, .int .i64 z, .int .i64 s, .int .u16 nn] 44)) from PM.of (own1 w (.cells #[.int .i64 34, .int .i64 x, .int .i64 z, .int .i64 s, .int .u16 nn] 44)))
 have HO := Lib.hid (Has.new w #[.int .i64 34, .int .i64 x, .int .i64 z, .int .i64 s, .int .u16 nn] 44)
 have NO := Lib.hid (h0.new (Nat.le_refl w.heap.size))
 obtain ⟨hc, hf⟩ := S0.out.cp
 clear h0
 go_enter Tryz.func81, Tryz.ntmps81
 go_wp2
 go_ret
 exact ⟨rfl, v, S0.out, M0.out⟩
set_option maxHeartbeats 2000000 in
theorem addr_35 (h0 : Sys procD ramC w P R M tb v y n) (hn : n < 970000) (x z s nn : Int) (n0 : 0 ≤ nn) (n1 : nn < 256) : Calls Tryz.prog 81 #[.pointer (some ⟨P, 0, none⟩), .agg #[.int .i64 35, .int .i64 x, .int .i64 z, .int .i64 s, .int .u16 nn]] w (PE procD ramC P R M tb v w (.int .u16 (65280 + nn)) (y) (n + 0)) := by
 have hw : IntKind.u16.wrap (65280 + nn) = 65280 + nn := by rw [IntKind.wrap_u16]; omega
 have S0 := Lib.hid (h0.below (own1 w (.cells #[.int .i64 35, .int .i64 x, .int .i64 z, .int .i64 s, .int .u16 nn] 44)))
 have M0 := Lib.hid (show PM P R M tb v w v (w.alloc (.cells #[.int .i64 35, .int .i64 x, .int .i64 z, .int .i64 s, .int .u16 nn] 44)) from PM.of (own1 w (.cells #[.int .i64 35, .int .i64 x, .int .i64 z, .int .i64 s, .int .u16 nn] 44)))
 have HO := Lib.hid (Has.new w #[.int .i64 35, .int .i64 x, .int .i64 z, .int .i64 s, .int .u16 nn] 44)
 have NO := Lib.hid (h0.new (Nat.le_refl w.heap.size))
 obtain ⟨hc, hf⟩ := S0.out.cp
 clear h0
 go_enter Tryz.func81, Tryz.ntmps81
 go_wp2
 go_ret
 exact ⟨rfl, v, S0.out, M0.out⟩
set_option maxHeartbeats 2000000 in
theorem addr_36 (h0 : Sys procD ramC w P R M tb v y n) (hn : n < 970000) (x z s nn : Int) : Calls Tryz.prog 81 #[.pointer (some ⟨P, 0, none⟩), .agg #[.int .i64 36, .int .i64 x, .int .i64 z, .int .i64 s, .int .u16 nn]] w (PE procD ramC P R M tb v w (.int .u16 (65280 + y.s.r.c)) (y) (n + 0)) := by
 have cb := h0.cb
 have hw : IntKind.u16.wrap (65280 + y.s.r.c) = 65280 + y.s.r.c := by rw [IntKind.wrap_u16]; omega
 have S0 := Lib.hid (h0.below (own1 w (.cells #[.int .i64 36, .int .i64 x, .int .i64 z, .int .i64 s, .int .u16 nn] 44)))
 have M0 := Lib.hid (show PM P R M tb v w v (w.alloc (.cells #[.int .i64 36, .int .i64 x, .int .i64 z, .int .i64 s, .int .u16 nn] 44)) from PM.of (own1 w (.cells #[.int .i64 36, .int .i64 x, .int .i64 z, .int .i64 s, .int .u16 nn] 44)))
 have HO := Lib.hid (Has.new w #[.int .i64 36, .int .i64 x, .int .i64 z, .int .i64 s, .int .u16 nn] 44)
 have NO := Lib.hid (h0.new (Nat.le_refl w.heap.size))
 obtain ⟨hc, hf⟩ := S0.out.cp
 clear h0
 go_enter Tryz.func81, Tryz.ntmps81
 go_wp2
 go_ret
 exact ⟨rfl, v, S0.out, M0.out⟩
set_option maxHeartbeats 2000000 in
theorem addr_37 (h0 : Sys procD ramC w P R M tb v y n) (hn : n < 970000) (x z s nn : Int) : Calls Tryz.prog 81 #[.pointer (some ⟨P, 0, none⟩), .agg #[.int .i64 37, .int .i64 x, .int .i64 z, .int .i64 s, .int .u16 nn]] w (PE procD ramC P R M tb v w (.int .u16 (65280 + y.s.r.c)) (y) (n + 0)) := by
 have cb := h0.cb
 have hw : IntKind.u16.wrap (65280 + y.s.r.c) = 65280 + y.s.r.c := by rw [IntKind.wrap_u16]; omega
 have S0 := Lib.hid (h0.below (own1 w (.cells #[.int .i64 37, .int .i64 x, .int .i64 z, .int .i64 s, .int .u16 nn] 44)))
 have M0 := Lib.hid (show PM P R M tb v w v (w.alloc (.cells #[.int .i64 37, .int .i64 x, .int .i64 z, .int .i64 s, .int .u16 nn] 44)) from PM.of (own1 w (.cells #[.int .i64 37, .int .i64 x, .int .i64 z, .int .i64 s, .int .u16 nn] 44)))
 have HO := Lib.hid (Has.new w #[.int .i64 37, .int .i64 x, .int .i64 z, .int .i64 s, .int .u16 nn] 44)
 have NO := Lib.hid (h0.new (Nat.le_refl w.heap.size))
 obtain ⟨hc, hf⟩ := S0.out.cp
 clear h0
 go_enter Tryz.func81, Tryz.ntmps81
 go_wp2
 go_ret
 exact ⟨rfl, v, S0.out, M0.out⟩
set_option maxHeartbeats 2000000 in
theorem addr_38 (h0 : Sys procD ramC w P R M tb v y n) (hn : n < 970000) (x z s nn : Int) : Calls Tryz.prog 81 #[.pointer (some ⟨P, 0, none⟩), .agg #[.int .i64 38, .int .i64 x, .int .i64 z, .int .i64 s, .int .u16 nn]] w (PE procD ramC P R M tb v w (.int .u16 nn) (y) (n + 0)) := by
 have S0 := Lib.hid (h0.below (own1 w (.cells #[.int .i64 38, .int .i64 x, .int .i64 z, .int .i64 s, .int .u16 nn] 44)))
 have M0 := Lib.hid (show PM P R M tb v w v (w.alloc (.cells #[.int .i64 38, .int .i64 x, .int .i64 z, .int .i64 s, .int .u16 nn] 44)) from PM.of (own1 w (.cells #[.int .i64 38, .int .i64 x, .int .i64 z, .int .i64 s, .int .u16 nn] 44)))
 have HO := Lib.hid (Has.new w #[.int .i64 38, .int .i64 x, .int .i64 z, .int .i64 s, .int .u16 nn] 44)
 have NO := Lib.hid (h0.new (Nat.le_refl w.heap.size))
 obtain ⟨hc, hf⟩ := S0.out.cp
 clear h0
 go_enter Tryz.func81, Tryz.ntmps81
 go_wp2
 go_ret
 exact ⟨rfl, v, S0.out, M0.out⟩
set_option maxHeartbeats 2000000 in
theorem addr_39 (h0 : Sys procD ramC w P R M tb v y n) (hn : n < 970000) (x z s nn : Int) : Calls Tryz.prog 81 #[.pointer (some ⟨P, 0, none⟩), .agg #[.int .i64 39, .int .i64 x, .int .i64 z, .int .i64 s, .int .u16 nn]] w (PE procD ramC P R M tb v w (.int .u16 nn) (y) (n + 0)) := by
 have S0 := Lib.hid (h0.below (own1 w (.cells #[.int .i64 39, .int .i64 x, .int .i64 z, .int .i64 s, .int .u16 nn] 44)))
 have M0 := Lib.hid (show PM P R M tb v w v (w.alloc (.cells #[.int .i64 39, .int .i64 x, .int .i64 z, .int .i64 s, .int .u16 nn] 44)) from PM.of (own1 w (.cells #[.int .i64 39, .int .i64 x, .int .i64 z, .int .i64 s, .int .u16 nn] 44)))
 have HO := Lib.hid (Has.new w #[.int .i64 39, .int .i64 x, .int .i64 z, .int .i64 s, .int .u16 nn] 44)
 have NO := Lib.hid (h0.new (Nat.le_refl w.heap.size))
 obtain ⟨hc, hf⟩ := S0.out.cp
 clear h0
 go_enter Tryz.func81, Tryz.ntmps81
 go_wp2
 go_ret
 exact ⟨rfl, v, S0.out, M0.out⟩
end
end Go.Proofs.YtngdogldgcgnjaaGreat
