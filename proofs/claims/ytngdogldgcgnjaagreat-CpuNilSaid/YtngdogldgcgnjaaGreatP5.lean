/-
  What calculate does: for every world; the processor is there.
-/
import Derived.Test.YtngdogldgcgnjaaGreatP4b
import Derived.Test.YtngdogldgcgnjaaGreatP4c
import Derived.Test.YtngdogldgcgnjaaGreatP4d
import Derived.Test.YtngdogldgcgnjaaGreatP4e
namespace Go.Proofs.YtngdogldgcgnjaaGreat
open Go.ChangeShapes Go.WideShapes Go.ChangeAt Go.RowKit
open Reg
set_option linter.unusedVariables false
set_option maxRecDepth 100000
section
variable {w : World} {P R M tb n : Nat} {v : Value} {y : Sy}
theorem fl128 (f : Int) (h1 : 0 ≤ f) (h2 : f < 256) : bits .or .u8 (bits .and .u8 f 128) 16 = Alu.FL (Alu.zf f) false false true :=
 byte_all (P := fun f => bits .or .u8 (bits .and .u8 f 128) 16 = Alu.FL (Alu.zf f) false false true) (by decide +kernel) f h1 h2
theorem fl144 (f : Int) (h1 : 0 ≤ f) (h2 : f < 256) : bits .xor .u8 (bits .and .u8 f 144) 16 = Alu.FL (Alu.zf f) false false (!Alu.cf f) :=
 byte_all (P := fun f => bits .xor .u8 (bits .and .u8 f 144) 16 = Alu.FL (Alu.zf f) false false (!Alu.cf f)) (by decide +kernel) f h1 h2
theorem fl96 (f : Int) (h1 : 0 ≤ f) (h2 : f < 256) : bits .or .u8 (bits .or .u8 (bits .and .u8 f 144) 64) 32 = Alu.FL (Alu.zf f) true true (Alu.cf f) :=
 byte_all (P := fun f => bits .or .u8 (bits .or .u8 (bits .and .u8 f 144) 64) 32 = Alu.FL (Alu.zf f) true true (Alu.cf f)) (by decide +kernel) f h1 h2
theorem cpl8 (a : Int) (h1 : 0 ≤ a) (h2 : a < 256) : bits .xor .u8 IntKind.u8.max a = 255 - a :=
 byte_all (P := fun a => bits .xor .u8 IntKind.u8.max a = 255 - a) (by decide +kernel) a h1 h2
theorem tz (x a f : Int) : bits .andNot .u8 (Alu.turnF x a f) 128 = Alu.fl 16 (Alu.turnO x a) := by
 unfold Alu.turnF
 generalize (Alu.turnR x a f == 0) = p
 generalize Alu.turnO x a = q
 cases p <;> cases q <;> kernel_rfl
set_option maxHeartbeats 2000000 in
theorem calc_10 (h0 : Sys procD ramC w P R M tb v y n) (hn : n < 960000) (x z s nn : Int) (x0 : 0 ≤ x) (x1 : x < 8) : Calls Tryz.prog 82 #[.pointer (some ⟨P, 0, none⟩), .agg #[.int .i64 10, .int .i64 x, .int .i64 z, .int .i64 s, .int .u16 nn]] w (PE procD ramC P R M tb v w (.tuple #[]) (sumS x (getY z y) (getS z y)) (n + 1)) := by
 have S0 := Lib.hid (h0.below (own1 w (.cells #[.int .i64 10, .int .i64 x, .int .i64 z, .int .i64 s, .int .u16 nn] 44)))
 have M0 := Lib.hid (show PM P R M tb v w v (w.alloc (.cells #[.int .i64 10, .int .i64 x, .int .i64 z, .int .i64 s, .int .u16 nn] 44)) from PM.of (own1 w (.cells #[.int .i64 10, .int .i64 x, .int .i64 z, .int .i64 s, .int .u16 nn] 44)))
 have HO := Lib.hid (Has.new w #[.int .i64 10, .int .i64 x, .int .i64 z, .int .i64 s, .int .u16 nn] 44)
 have NO := Lib.hid (h0.new (Nat.le_refl w.heap.size))
 obtain ⟨hc, hf⟩ := S0.out.cp
 clear h0
 go_enter Tryz.func82, Tryz.ntmps82
 go_wp2
 generalize w.alloc (.cells #[.int .i64 10, .int .i64 x, .int .i64 z, .int .i64 s, .int .u16 nn] 44) = w0 at S0 M0 HO hc hf ⊢
 generalize w.heap.size = ob at HO NO ⊢
 have ho := HO.out.2.1
 have S0' := Lib.hid S0.out.drew
 have M0' := Lib.hid (M0.out.trans (PM.drew P R M tb v w0))
 have HO' := Lib.hid HO.out.drew
 clear ho HO
 have HO := HO'
 clear HO'
 clear hc hf
 refine wp_region_held_drew (S := (fun w' => (∀ j, w'.cell? ⟨ob, j, none⟩ = #[Value.int .i64 10, .int .i64 x, .int .i64 z, .int .i64 s, .int .u16 nn][j]?) ∧ True)) (by kernel_rfl) ⟨HO.out.2.1, trivial⟩ (fun hHeld => ?_)
 generalize World.drew w0 = u0 at hHeld S0' M0' HO ⊢
 clear S0 M0
 have S0 := S0'
 have M0 := M0'
 clear S0' M0'
 refine tk 0 rfl (v := ?v1) ?y1 ?z1
 case y1 => (intro w hSw; (try dsimp only at hSw); go_simp) <;> with_reducible rfl
 try simp only [Act.put, qqA, qqB, qqC]
 refine tk 1 rfl (v := ?v2) ?y2 ?z2
 case y2 => (intro w hSw; (try dsimp only at hSw); go_simp) <;> with_reducible rfl
 try simp only [Act.put, qqA, qqB, qqC]
 refine tk 2 rfl (v := ?v3) ?y3 ?z3
 case y3 => (intro w hSw; (try dsimp only at hSw); go_simp) <;> with_reducible rfl
 try simp only [Act.put, qqA, qqB, qqC]
 refine tk 3 rfl (v := ?v4) ?y4 ?z4
 case y4 => (intro w hSw; (try dsimp only at hSw); go_simp) <;> with_reducible rfl
 try simp only [Act.put, qqA, qqB, qqC]
 refine tk 4 rfl (v := ?v5) ?y5 ?z5
 case y5 => (intro w hSw; (try dsimp only at hSw); go_simp) <;> with_reducible rfl
 try simp only [Act.put, qqA, qqB, qqC]
 refine tk 5 rfl (v := ?v6) ?y6 ?z6
 case y6 => (intro w hSw; (try dsimp only at hSw); go_simp) <;> with_reducible rfl
 try simp only [Act.put, qqA, qqB, qqC]
 refine wpAnyH_ready (rs := [6]) (by kernel_rfl) (by simp) ?_
 refine (ac rfl (fun K hK => ?_) AllReadyH.nil)
 ·skip
  go_simp
  go_wp2_with (go_at_call 89; (with_reducible refine (get_p S0.out (by omega) z).mono ?_); rintro e w1 ⟨rfl, v1, s', m'⟩)
  have HO' := Lib.hid (m'.has HO.out NO.out)
  have NO' := Lib.hid (m'.far HO.out.1 NO.out)
  clear HO NO
  have HO := HO'
  have NO := NO'
  clear HO' NO'
  refine hK.out _ _ ?s7 (fun hNew => ?r7)
  case s7 => exact ⟨HO.out.2.1, trivial⟩
  clear hK K hHeld
  have hHeld := hNew
  clear hNew
  have M1 := Lib.hid (M0.out.trans m')
  obtain ⟨y1, hy⟩ : ∃ q_, q_ = getS z y := ⟨_, rfl⟩
  rw [← hy] at s'
  have Y1 := Lib.hid hy
  have S1 := Lib.hid s'
  clear s' m' hy
  refine wpAnyH_ready (rs := [7]) (by kernel_rfl) (by simp) ?_
  refine (ac rfl (fun K hK => ?_) AllReadyH.nil)
  ·skip
   go_simp
   go_wp2_with (go_at_call 91; (with_reducible refine (sum_p S1.out (by omega) x _ x0 x1 (S0.out.getb z).1 (S0.out.getb z).2).mono ?_); rintro e w2 ⟨rfl, v2, s', m'⟩)
   have HO' := Lib.hid (m'.has HO.out NO.out)
   have NO' := Lib.hid (m'.far HO.out.1 NO.out)
   clear HO NO
   have HO := HO'
   have NO := NO'
   clear HO' NO'
   refine hK.out _ _ ?s8 (fun hNew => ?r8)
   case s8 => exact ⟨HO.out.2.1, trivial⟩
   clear hK K hHeld
   have hHeld := hNew
   clear hNew
   have M2 := Lib.hid (M1.out.trans m')
   obtain ⟨y2, hy⟩ : ∃ q_, q_ = sumS x (getY z y) y1 := ⟨_, rfl⟩
   rw [← hy] at s'
   have Y2 := Lib.hid hy
   have S2 := Lib.hid s'
   clear s' m' hy
   refine wpAnyH_done (by kernel_rfl) ?_ _
   obtain ⟨hc, hf⟩ := S2.out.cp
   have ho := HO.out.2.1
   go_wp2
   first | go_end0 | refine bodyPost_ret (results_none rfl _ _ _) rfl ?_
   refine ⟨rfl, v2, ?_, M2.out⟩
   have q := S2.out
   have e := Y2.out.symm
   subst e
   have e := Y1.out.symm
   subst e
   exact Sys.mono (n' := n + 1) q (by omega)
set_option maxHeartbeats 2000000 in
theorem calc_11 (h0 : Sys procD ramC w P R M tb v y n) (hn : n < 960000) (x z s nn : Int) (x0 : 0 ≤ x) (x1 : x < 8) : Calls Tryz.prog 82 #[.pointer (some ⟨P, 0, none⟩), .agg #[.int .i64 11, .int .i64 x, .int .i64 z, .int .i64 s, .int .u16 nn]] w (PE procD ramC P R M tb v w (.tuple #[]) (sumS x (nn % 256) y) (n + 0)) := by
 have S0 := Lib.hid (h0.below (own1 w (.cells #[.int .i64 11, .int .i64 x, .int .i64 z, .int .i64 s, .int .u16 nn] 44)))
 have M0 := Lib.hid (show PM P R M tb v w v (w.alloc (.cells #[.int .i64 11, .int .i64 x, .int .i64 z, .int .i64 s, .int .u16 nn] 44)) from PM.of (own1 w (.cells #[.int .i64 11, .int .i64 x, .int .i64 z, .int .i64 s, .int .u16 nn] 44)))
 have HO := Lib.hid (Has.new w #[.int .i64 11, .int .i64 x, .int .i64 z, .int .i64 s, .int .u16 nn] 44)
 have NO := Lib.hid (h0.new (Nat.le_refl w.heap.size))
 obtain ⟨hc, hf⟩ := S0.out.cp
 clear h0
 go_enter Tryz.func82, Tryz.ntmps82
 go_wp2_with fail
 generalize w.alloc (.cells #[.int .i64 11, .int .i64 x, .int .i64 z, .int .i64 s, .int .u16 nn] 44) = w0 at S0 M0 HO hc hf ⊢
 generalize w.heap.size = ob at HO NO ⊢
 have ho := HO.out.2.1
 with_reducible refine (sum_p S0.out (by omega) x (nn % 256) x0 x1 (by omega) (by omega)).mono ?_
 rintro e w1 ⟨rfl, v1, s', m'⟩
 have HO' := Lib.hid (m'.has HO.out NO.out)
 have NO' := Lib.hid (m'.far HO.out.1 NO.out)
 clear ho HO NO
 have HO := HO'
 have NO := NO'
 clear HO' NO'
 have ho := HO.out.2.1
 have M1 := Lib.hid (M0.out.trans m')
 obtain ⟨y1, hy⟩ : ∃ q_, q_ = sumS x (nn % 256) y := ⟨_, rfl⟩
 rw [← hy] at s'
 have Y1 := Lib.hid hy
 clear hc hf
 obtain ⟨hc, hf⟩ := s'.cp
 have S1 := Lib.hid s'
 clear s' m' hy
 go_wp2
 first | go_end0 | refine bodyPost_ret (results_none rfl _ _ _) rfl ?_
 refine ⟨rfl, v1, ?_, M1.out⟩
 have q := S1.out
 have e := Y1.out.symm
 subst e
 exact Sys.mono (n' := n + 0) q (by omega)
set_option maxHeartbeats 2000000 in
theorem calc_12 (h0 : Sys procD ramC w P R M tb v y n) (hn : n < 960000) (x z s nn : Int) : Calls Tryz.prog 82 #[.pointer (some ⟨P, 0, none⟩), .agg #[.int .i64 12, .int .i64 x, .int .i64 z, .int .i64 s, .int .u16 nn]] w (PE procD ramC P R M tb v w (.tuple #[]) (setF (Alu.incF (getY x y) y.s.r.f) (putS x ((getY x y + 1) % 256) (getS x y))) (n + 2)) := by
 have S0 := Lib.hid (h0.below (own1 w (.cells #[.int .i64 12, .int .i64 x, .int .i64 z, .int .i64 s, .int .u16 nn] 44)))
 have M0 := Lib.hid (show PM P R M tb v w v (w.alloc (.cells #[.int .i64 12, .int .i64 x, .int .i64 z, .int .i64 s, .int .u16 nn] 44)) from PM.of (own1 w (.cells #[.int .i64 12, .int .i64 x, .int .i64 z, .int .i64 s, .int .u16 nn] 44)))
 have HO := Lib.hid (Has.new w #[.int .i64 12, .int .i64 x, .int .i64 z, .int .i64 s, .int .u16 nn] 44)
 have NO := Lib.hid (h0.new (Nat.le_refl w.heap.size))
 obtain ⟨hc, hf⟩ := S0.out.cp
 clear h0
 go_enter Tryz.func82, Tryz.ntmps82
 go_wp2_with fail
 generalize w.alloc (.cells #[.int .i64 12, .int .i64 x, .int .i64 z, .int .i64 s, .int .u16 nn] 44) = w0 at S0 M0 HO hc hf ⊢
 generalize w.heap.size = ob at HO NO ⊢
 have ho := HO.out.2.1
 with_reducible refine (change_Inc S0.out (by omega) x).mono ?_
 rintro e w1 ⟨rfl, v1, s', m'⟩
 have HO' := Lib.hid (m'.has HO.out NO.out)
 have NO' := Lib.hid (m'.far HO.out.1 NO.out)
 clear ho HO NO
 have HO := HO'
 have NO := NO'
 clear HO' NO'
 have ho := HO.out.2.1
 have M1 := Lib.hid (M0.out.trans m')
 obtain ⟨y1, hy⟩ : ∃ q_, q_ = setF (Alu.incF (getY x y) y.s.r.f) (putS x ((getY x y + 1) % 256) (getS x y)) := ⟨_, rfl⟩
 rw [← hy] at s'
 have Y1 := Lib.hid hy
 clear hc hf
 obtain ⟨hc, hf⟩ := s'.cp
 have S1 := Lib.hid s'
 clear s' m' hy
 go_wp2
 first | go_end0 | refine bodyPost_ret (results_none rfl _ _ _) rfl ?_
 refine ⟨rfl, v1, ?_, M1.out⟩
 have q := S1.out
 have e := Y1.out.symm
 subst e
 exact Sys.mono (n' := n + 2) q (by omega)
set_option maxHeartbeats 2000000 in
theorem calc_13 (h0 : Sys procD ramC w P R M tb v y n) (hn : n < 960000) (x z s nn : Int) : Calls Tryz.prog 82 #[.pointer (some ⟨P, 0, none⟩), .agg #[.int .i64 13, .int .i64 x, .int .i64 z, .int .i64 s, .int .u16 nn]] w (PE procD ramC P R M tb v w (.tuple #[]) (setF (Alu.decF (getY x y) y.s.r.f) (putS x ((getY x y - 1) % 256) (getS x y))) (n + 2)) := by
 have S0 := Lib.hid (h0.below (own1 w (.cells #[.int .i64 13, .int .i64 x, .int .i64 z, .int .i64 s, .int .u16 nn] 44)))
 have M0 := Lib.hid (show PM P R M tb v w v (w.alloc (.cells #[.int .i64 13, .int .i64 x, .int .i64 z, .int .i64 s, .int .u16 nn] 44)) from PM.of (own1 w (.cells #[.int .i64 13, .int .i64 x, .int .i64 z, .int .i64 s, .int .u16 nn] 44)))
 have HO := Lib.hid (Has.new w #[.int .i64 13, .int .i64 x, .int .i64 z, .int .i64 s, .int .u16 nn] 44)
 have NO := Lib.hid (h0.new (Nat.le_refl w.heap.size))
 obtain ⟨hc, hf⟩ := S0.out.cp
 clear h0
 go_enter Tryz.func82, Tryz.ntmps82
 go_wp2_with fail
 generalize w.alloc (.cells #[.int .i64 13, .int .i64 x, .int .i64 z, .int .i64 s, .int .u16 nn] 44) = w0 at S0 M0 HO hc hf ⊢
 generalize w.heap.size = ob at HO NO ⊢
 have ho := HO.out.2.1
 with_reducible refine (change_Dec S0.out (by omega) x).mono ?_
 rintro e w1 ⟨rfl, v1, s', m'⟩
 have HO' := Lib.hid (m'.has HO.out NO.out)
 have NO' := Lib.hid (m'.far HO.out.1 NO.out)
 clear ho HO NO
 have HO := HO'
 have NO := NO'
 clear HO' NO'
 have ho := HO.out.2.1
 have M1 := Lib.hid (M0.out.trans m')
 obtain ⟨y1, hy⟩ : ∃ q_, q_ = setF (Alu.decF (getY x y) y.s.r.f) (putS x ((getY x y - 1) % 256) (getS x y)) := ⟨_, rfl⟩
 rw [← hy] at s'
 have Y1 := Lib.hid hy
 clear hc hf
 obtain ⟨hc, hf⟩ := s'.cp
 have S1 := Lib.hid s'
 clear s' m' hy
 go_wp2
 first | go_end0 | refine bodyPost_ret (results_none rfl _ _ _) rfl ?_
 refine ⟨rfl, v1, ?_, M1.out⟩
 have q := S1.out
 have e := Y1.out.symm
 subst e
 exact Sys.mono (n' := n + 2) q (by omega)
set_option maxHeartbeats 2000000 in
theorem calc_17 (h0 : Sys procD ramC w P R M tb v y n) (hn : n < 960000) (x z s nn : Int) : Calls Tryz.prog 82 #[.pointer (some ⟨P, 0, none⟩), .agg #[.int .i64 17, .int .i64 x, .int .i64 z, .int .i64 s, .int .u16 nn]] w (PE procD ramC P R M tb v w (.tuple #[]) (putS z (Alu.turnR x (getY z y) y.s.r.f) (setF (Alu.turnF x (getY z y) y.s.r.f) (getS z y))) (n + 2)) := by
 have S0 := Lib.hid (h0.below (own1 w (.cells #[.int .i64 17, .int .i64 x, .int .i64 z, .int .i64 s, .int .u16 nn] 44)))
 have M0 := Lib.hid (show PM P R M tb v w v (w.alloc (.cells #[.int .i64 17, .int .i64 x, .int .i64 z, .int .i64 s, .int .u16 nn] 44)) from PM.of (own1 w (.cells #[.int .i64 17, .int .i64 x, .int .i64 z, .int .i64 s, .int .u16 nn] 44)))
 have HO := Lib.hid (Has.new w #[.int .i64 17, .int .i64 x, .int .i64 z, .int .i64 s, .int .u16 nn] 44)
 have NO := Lib.hid (h0.new (Nat.le_refl w.heap.size))
 obtain ⟨hc, hf⟩ := S0.out.cp
 clear h0
 go_enter Tryz.func82, Tryz.ntmps82
 go_wp2_with fail
 generalize w.alloc (.cells #[.int .i64 17, .int .i64 x, .int .i64 z, .int .i64 s, .int .u16 nn] 44) = w0 at S0 M0 HO hc hf ⊢
 generalize w.heap.size = ob at HO NO ⊢
 have ho := HO.out.2.1
 with_reducible refine (pre_17 S0.out (by omega) x z s nn).mono ?_
 rintro e w1 ⟨rfl, v1, s', m'⟩
 have HO' := Lib.hid (m'.has HO.out NO.out)
 have NO' := Lib.hid (m'.far HO.out.1 NO.out)
 clear ho HO NO
 have HO := HO'
 have NO := NO'
 clear HO' NO'
 have ho := HO.out.2.1
 have M1 := Lib.hid (M0.out.trans m')
 obtain ⟨y1, hy⟩ : ∃ q_, q_ = putS z (Alu.turnR x (getY z y) y.s.r.f) (setF (Alu.turnF x (getY z y) y.s.r.f) (getS z y)) := ⟨_, rfl⟩
 rw [← hy] at s'
 have Y1 := Lib.hid hy
 clear hc hf
 obtain ⟨hc, hf⟩ := s'.cp
 have S1 := Lib.hid s'
 clear s' m' hy
 go_wp2
 first | go_end0 | refine bodyPost_ret (results_none rfl _ _ _) rfl ?_
 refine ⟨rfl, v1, ?_, M1.out⟩
 have q := S1.out
 have e := Y1.out.symm
 subst e
 exact Sys.mono (n' := n + 2) q (by omega)
set_option maxHeartbeats 2000000 in
theorem calc_44 (h0 : Sys procD ramC w P R M tb v y n) (hn : n < 960000) (x z s nn : Int) : Calls Tryz.prog 82 #[.pointer (some ⟨P, 0, none⟩), .agg #[.int .i64 44, .int .i64 x, .int .i64 z, .int .i64 s, .int .u16 nn]] w (PE procD ramC P R M tb v w (.tuple #[]) (setF (Alu.bitF x (getY z y) y.s.r.f) (getS z y)) (n + 1)) := by
 have S0 := Lib.hid (h0.below (own1 w (.cells #[.int .i64 44, .int .i64 x, .int .i64 z, .int .i64 s, .int .u16 nn] 44)))
 have M0 := Lib.hid (show PM P R M tb v w v (w.alloc (.cells #[.int .i64 44, .int .i64 x, .int .i64 z, .int .i64 s, .int .u16 nn] 44)) from PM.of (own1 w (.cells #[.int .i64 44, .int .i64 x, .int .i64 z, .int .i64 s, .int .u16 nn] 44)))
 have HO := Lib.hid (Has.new w #[.int .i64 44, .int .i64 x, .int .i64 z, .int .i64 s, .int .u16 nn] 44)
 have NO := Lib.hid (h0.new (Nat.le_refl w.heap.size))
 obtain ⟨hc, hf⟩ := S0.out.cp
 clear h0
 go_enter Tryz.func82, Tryz.ntmps82
 go_wp2_with fail
 generalize w.alloc (.cells #[.int .i64 44, .int .i64 x, .int .i64 z, .int .i64 s, .int .u16 nn] 44) = w0 at S0 M0 HO hc hf ⊢
 generalize w.heap.size = ob at HO NO ⊢
 have ho := HO.out.2.1
 with_reducible refine (pre_44 S0.out (by omega) x z s nn).mono ?_
 rintro e w1 ⟨rfl, v1, s', m'⟩
 have HO' := Lib.hid (m'.has HO.out NO.out)
 have NO' := Lib.hid (m'.far HO.out.1 NO.out)
 clear ho HO NO
 have HO := HO'
 have NO := NO'
 clear HO' NO'
 have ho := HO.out.2.1
 have M1 := Lib.hid (M0.out.trans m')
 obtain ⟨y1, hy⟩ : ∃ q_, q_ = setF (Alu.bitF x (getY z y) y.s.r.f) (getS z y) := ⟨_, rfl⟩
 rw [← hy] at s'
 have Y1 := Lib.hid hy
 clear hc hf
 obtain ⟨hc, hf⟩ := s'.cp
 have S1 := Lib.hid s'
 clear s' m' hy
 go_wp2
 first | go_end0 | refine bodyPost_ret (results_none rfl _ _ _) rfl ?_
 refine ⟨rfl, v1, ?_, M1.out⟩
 have q := S1.out
 have e := Y1.out.symm
 subst e
 exact Sys.mono (n' := n + 1) q (by omega)
set_option maxHeartbeats 2000000 in
theorem calc_45 (h0 : Sys procD ramC w P R M tb v y n) (hn : n < 960000) (x z s nn : Int) (x0 : 0 ≤ x) (x1 : x < 8) : Calls Tryz.prog 82 #[.pointer (some ⟨P, 0, none⟩), .agg #[.int .i64 45, .int .i64 x, .int .i64 z, .int .i64 s, .int .u16 nn]] w (PE procD ramC P R M tb v w (.tuple #[]) (putS z (clr (getY z y) x.toNat) (getS z y)) (n + 2)) := by
 have S0 := Lib.hid (h0.below (own1 w (.cells #[.int .i64 45, .int .i64 x, .int .i64 z, .int .i64 s, .int .u16 nn] 44)))
 have M0 := Lib.hid (show PM P R M tb v w v (w.alloc (.cells #[.int .i64 45, .int .i64 x, .int .i64 z, .int .i64 s, .int .u16 nn] 44)) from PM.of (own1 w (.cells #[.int .i64 45, .int .i64 x, .int .i64 z, .int .i64 s, .int .u16 nn] 44)))
 have HO := Lib.hid (Has.new w #[.int .i64 45, .int .i64 x, .int .i64 z, .int .i64 s, .int .u16 nn] 44)
 have NO := Lib.hid (h0.new (Nat.le_refl w.heap.size))
 obtain ⟨hc, hf⟩ := S0.out.cp
 clear h0
 go_enter Tryz.func82, Tryz.ntmps82
 go_wp2_with fail
 generalize w.alloc (.cells #[.int .i64 45, .int .i64 x, .int .i64 z, .int .i64 s, .int .u16 nn] 44) = w0 at S0 M0 HO hc hf ⊢
 generalize w.heap.size = ob at HO NO ⊢
 have ho := HO.out.2.1
 with_reducible refine (pre_45 S0.out (by omega) x z s nn x0 x1).mono ?_
 rintro e w1 ⟨rfl, v1, s', m'⟩
 have HO' := Lib.hid (m'.has HO.out NO.out)
 have NO' := Lib.hid (m'.far HO.out.1 NO.out)
 clear ho HO NO
 have HO := HO'
 have NO := NO'
 clear HO' NO'
 have ho := HO.out.2.1
 have M1 := Lib.hid (M0.out.trans m')
 obtain ⟨y1, hy⟩ : ∃ q_, q_ = putS z (clr (getY z y) x.toNat) (getS z y) := ⟨_, rfl⟩
 rw [← hy] at s'
 have Y1 := Lib.hid hy
 clear hc hf
 obtain ⟨hc, hf⟩ := s'.cp
 have S1 := Lib.hid s'
 clear s' m' hy
 go_wp2
 first | go_end0 | refine bodyPost_ret (results_none rfl _ _ _) rfl ?_
 refine ⟨rfl, v1, ?_, M1.out⟩
 have q := S1.out
 have e := Y1.out.symm
 subst e
 exact Sys.mono (n' := n + 2) q (by omega)
set_option maxHeartbeats 2000000 in
theorem calc_46 (h0 : Sys procD ramC w P R M tb v y n) (hn : n < 960000) (x z s nn : Int) (x0 : 0 ≤ x) (x1 : x < 8) : Calls Tryz.prog 82 #[.pointer (some ⟨P, 0, none⟩), .agg #[.int .i64 46, .int .i64 x, .int .i64 z, .int .i64 s, .int .u16 nn]] w (PE procD ramC P R M tb v w (.tuple #[]) (putS z (put (getY z y) x.toNat) (getS z y)) (n + 2)) := by
 have S0 := Lib.hid (h0.below (own1 w (.cells #[.int .i64 46, .int .i64 x, .int .i64 z, .int .i64 s, .int .u16 nn] 44)))
 have M0 := Lib.hid (show PM P R M tb v w v (w.alloc (.cells #[.int .i64 46, .int .i64 x, .int .i64 z, .int .i64 s, .int .u16 nn] 44)) from PM.of (own1 w (.cells #[.int .i64 46, .int .i64 x, .int .i64 z, .int .i64 s, .int .u16 nn] 44)))
 have HO := Lib.hid (Has.new w #[.int .i64 46, .int .i64 x, .int .i64 z, .int .i64 s, .int .u16 nn] 44)
 have NO := Lib.hid (h0.new (Nat.le_refl w.heap.size))
 obtain ⟨hc, hf⟩ := S0.out.cp
 clear h0
 go_enter Tryz.func82, Tryz.ntmps82
 go_wp2_with fail
 generalize w.alloc (.cells #[.int .i64 46, .int .i64 x, .int .i64 z, .int .i64 s, .int .u16 nn] 44) = w0 at S0 M0 HO hc hf ⊢
 generalize w.heap.size = ob at HO NO ⊢
 have ho := HO.out.2.1
 with_reducible refine (pre_46 S0.out (by omega) x z s nn x0 x1).mono ?_
 rintro e w1 ⟨rfl, v1, s', m'⟩
 have HO' := Lib.hid (m'.has HO.out NO.out)
 have NO' := Lib.hid (m'.far HO.out.1 NO.out)
 clear ho HO NO
 have HO := HO'
 have NO := NO'
 clear HO' NO'
 have ho := HO.out.2.1
 have M1 := Lib.hid (M0.out.trans m')
 obtain ⟨y1, hy⟩ : ∃ q_, q_ = putS z (put (getY z y) x.toNat) (getS z y) := ⟨_, rfl⟩
 rw [← hy] at s'
 have Y1 := Lib.hid hy
 clear hc hf
 obtain ⟨hc, hf⟩ := s'.cp
 have S1 := Lib.hid s'
 clear s' m' hy
 go_wp2
 first | go_end0 | refine bodyPost_ret (results_none rfl _ _ _) rfl ?_
 refine ⟨rfl, v1, ?_, M1.out⟩
 have q := S1.out
 have e := Y1.out.symm
 subst e
 exact Sys.mono (n' := n + 2) q (by omega)
set_option maxHeartbeats 2000000 in
theorem calc_14 (h0 : Sys procD ramC w P R M tb v y n) (hn : n < 960000) (x z s nn : Int) : Calls Tryz.prog 82 #[.pointer (some ⟨P, 0, none⟩), .agg #[.int .i64 14, .int .i64 x, .int .i64 z, .int .i64 s, .int .u16 nn]] w (PE procD ramC P R M tb v w (.tuple #[]) (pairS x (up (pairV y.s.r x)) (idle y)) (n + 1)) := by
 have S0 := Lib.hid (h0.below (own1 w (.cells #[.int .i64 14, .int .i64 x, .int .i64 z, .int .i64 s, .int .u16 nn] 44)))
 have M0 := Lib.hid (show PM P R M tb v w v (w.alloc (.cells #[.int .i64 14, .int .i64 x, .int .i64 z, .int .i64 s, .int .u16 nn] 44)) from PM.of (own1 w (.cells #[.int .i64 14, .int .i64 x, .int .i64 z, .int .i64 s, .int .u16 nn] 44)))
 have HO := Lib.hid (Has.new w #[.int .i64 14, .int .i64 x, .int .i64 z, .int .i64 s, .int .u16 nn] 44)
 have NO := Lib.hid (h0.new (Nat.le_refl w.heap.size))
 obtain ⟨hc, hf⟩ := S0.out.cp
 clear h0
 go_enter Tryz.func82, Tryz.ntmps82
 go_wp2_with fail
 generalize w.alloc (.cells #[.int .i64 14, .int .i64 x, .int .i64 z, .int .i64 s, .int .u16 nn] 44) = w0 at S0 M0 HO hc hf ⊢
 generalize w.heap.size = ob at HO NO ⊢
 have ho := HO.out.2.1
 with_reducible refine (words_14 S0.out (by omega) x z s nn).mono ?_
 rintro e w1 ⟨rfl, v1, s', m'⟩
 have HO' := Lib.hid (m'.has HO.out NO.out)
 have NO' := Lib.hid (m'.far HO.out.1 NO.out)
 clear ho HO NO
 have HO := HO'
 have NO := NO'
 clear HO' NO'
 have ho := HO.out.2.1
 have M1 := Lib.hid (M0.out.trans m')
 obtain ⟨y1, hy⟩ : ∃ q_, q_ = pairS x (up (pairV y.s.r x)) (idle y) := ⟨_, rfl⟩
 rw [← hy] at s'
 have Y1 := Lib.hid hy
 clear hc hf
 obtain ⟨hc, hf⟩ := s'.cp
 have S1 := Lib.hid s'
 clear s' m' hy
 go_wp2
 first | go_end0 | refine bodyPost_ret (results_none rfl _ _ _) rfl ?_
 refine ⟨rfl, v1, ?_, M1.out⟩
 have q := S1.out
 have e := Y1.out.symm
 subst e
 exact Sys.mono (n' := n + 1) q (by omega)
set_option maxHeartbeats 2000000 in
theorem calc_15 (h0 : Sys procD ramC w P R M tb v y n) (hn : n < 960000) (x z s nn : Int) : Calls Tryz.prog 82 #[.pointer (some ⟨P, 0, none⟩), .agg #[.int .i64 15, .int .i64 x, .int .i64 z, .int .i64 s, .int .u16 nn]] w (PE procD ramC P R M tb v w (.tuple #[]) (pairS x (dn (pairV y.s.r x)) (idle y)) (n + 1)) := by
 have S0 := Lib.hid (h0.below (own1 w (.cells #[.int .i64 15, .int .i64 x, .int .i64 z, .int .i64 s, .int .u16 nn] 44)))
 have M0 := Lib.hid (show PM P R M tb v w v (w.alloc (.cells #[.int .i64 15, .int .i64 x, .int .i64 z, .int .i64 s, .int .u16 nn] 44)) from PM.of (own1 w (.cells #[.int .i64 15, .int .i64 x, .int .i64 z, .int .i64 s, .int .u16 nn] 44)))
 have HO := Lib.hid (Has.new w #[.int .i64 15, .int .i64 x, .int .i64 z, .int .i64 s, .int .u16 nn] 44)
 have NO := Lib.hid (h0.new (Nat.le_refl w.heap.size))
 obtain ⟨hc, hf⟩ := S0.out.cp
 clear h0
 go_enter Tryz.func82, Tryz.ntmps82
 go_wp2_with fail
 generalize w.alloc (.cells #[.int .i64 15, .int .i64 x, .int .i64 z, .int .i64 s, .int .u16 nn] 44) = w0 at S0 M0 HO hc hf ⊢
 generalize w.heap.size = ob at HO NO ⊢
 have ho := HO.out.2.1
 with_reducible refine (words_15 S0.out (by omega) x z s nn).mono ?_
 rintro e w1 ⟨rfl, v1, s', m'⟩
 have HO' := Lib.hid (m'.has HO.out NO.out)
 have NO' := Lib.hid (m'.far HO.out.1 NO.out)
 clear ho HO NO
 have HO := HO'
 have NO := NO'
 clear HO' NO'
 have ho := HO.out.2.1
 have M1 := Lib.hid (M0.out.trans m')
 obtain ⟨y1, hy⟩ : ∃ q_, q_ = pairS x (dn (pairV y.s.r x)) (idle y) := ⟨_, rfl⟩
 rw [← hy] at s'
 have Y1 := Lib.hid hy
 clear hc hf
 obtain ⟨hc, hf⟩ := s'.cp
 have S1 := Lib.hid s'
 clear s' m' hy
 go_wp2
 first | go_end0 | refine bodyPost_ret (results_none rfl _ _ _) rfl ?_
 refine ⟨rfl, v1, ?_, M1.out⟩
 have q := S1.out
 have e := Y1.out.symm
 subst e
 exact Sys.mono (n' := n + 1) q (by omega)
set_option maxHeartbeats 2000000 in
theorem calc_16 (h0 : Sys procD ramC w P R M tb v y n) (hn : n < 960000) (x z s nn : Int) : Calls Tryz.prog 82 #[.pointer (some ⟨P, 0, none⟩), .agg #[.int .i64 16, .int .i64 x, .int .i64 z, .int .i64 s, .int .u16 nn]] w (PE procD ramC P R M tb v w (.tuple #[]) (setF (Alu.add16F (hlV y) (pairV y.s.r x) y.s.r.f) (pairS 2 ((hlV y + pairV y.s.r x) % 65536) (idle y))) (n + 1)) := by
 have S0 := Lib.hid (h0.below (own1 w (.cells #[.int .i64 16, .int .i64 x, .int .i64 z, .int .i64 s, .int .u16 nn] 44)))
 have M0 := Lib.hid (show PM P R M tb v w v (w.alloc (.cells #[.int .i64 16, .int .i64 x, .int .i64 z, .int .i64 s, .int .u16 nn] 44)) from PM.of (own1 w (.cells #[.int .i64 16, .int .i64 x, .int .i64 z, .int .i64 s, .int .u16 nn] 44)))
 have HO := Lib.hid (Has.new w #[.int .i64 16, .int .i64 x, .int .i64 z, .int .i64 s, .int .u16 nn] 44)
 have NO := Lib.hid (h0.new (Nat.le_refl w.heap.size))
 obtain ⟨hc, hf⟩ := S0.out.cp
 clear h0
 go_enter Tryz.func82, Tryz.ntmps82
 go_wp2_with fail
 generalize w.alloc (.cells #[.int .i64 16, .int .i64 x, .int .i64 z, .int .i64 s, .int .u16 nn] 44) = w0 at S0 M0 HO hc hf ⊢
 generalize w.heap.size = ob at HO NO ⊢
 have ho := HO.out.2.1
 with_reducible refine (words_16 S0.out (by omega) x z s nn).mono ?_
 rintro e w1 ⟨rfl, v1, s', m'⟩
 have HO' := Lib.hid (m'.has HO.out NO.out)
 have NO' := Lib.hid (m'.far HO.out.1 NO.out)
 clear ho HO NO
 have HO := HO'
 have NO := NO'
 clear HO' NO'
 have ho := HO.out.2.1
 have M1 := Lib.hid (M0.out.trans m')
 obtain ⟨y1, hy⟩ : ∃ q_, q_ = setF (Alu.add16F (hlV y) (pairV y.s.r x) y.s.r.f) (pairS 2 ((hlV y + pairV y.s.r x) % 65536) (idle y)) := ⟨_, rfl⟩
 rw [← hy] at s'
 have Y1 := Lib.hid hy
 clear hc hf
 obtain ⟨hc, hf⟩ := s'.cp
 have S1 := Lib.hid s'
 clear s' m' hy
 go_wp2
 first | go_end0 | refine bodyPost_ret (results_none rfl _ _ _) rfl ?_
 refine ⟨rfl, v1, ?_, M1.out⟩
 have q := S1.out
 have e := Y1.out.symm
 subst e
 exact Sys.mono (n' := n + 1) q (by omega)
set_option maxHeartbeats 2000000 in
theorem calc_41 (h0 : Sys procD ramC w P R M tb v y n) (hn : n < 960000) (x z s nn : Int) : Calls Tryz.prog 82 #[.pointer (some ⟨P, 0, none⟩), .agg #[.int .i64 41, .int .i64 x, .int .i64 z, .int .i64 s, .int .u16 nn]] w (PE procD ramC P R M tb v w (.tuple #[]) (setF (Alu.shiftF y.s.r.sp (nn % 256)) (setSP (Alu.shiftR y.s.r.sp (nn % 256)) (idle (idle y)))) (n + 2)) := by
 have S0 := Lib.hid (h0.below (own1 w (.cells #[.int .i64 41, .int .i64 x, .int .i64 z, .int .i64 s, .int .u16 nn] 44)))
 have M0 := Lib.hid (show PM P R M tb v w v (w.alloc (.cells #[.int .i64 41, .int .i64 x, .int .i64 z, .int .i64 s, .int .u16 nn] 44)) from PM.of (own1 w (.cells #[.int .i64 41, .int .i64 x, .int .i64 z, .int .i64 s, .int .u16 nn] 44)))
 have HO := Lib.hid (Has.new w #[.int .i64 41, .int .i64 x, .int .i64 z, .int .i64 s, .int .u16 nn] 44)
 have NO := Lib.hid (h0.new (Nat.le_refl w.heap.size))
 obtain ⟨hc, hf⟩ := S0.out.cp
 clear h0
 go_enter Tryz.func82, Tryz.ntmps82
 go_wp2_with fail
 generalize w.alloc (.cells #[.int .i64 41, .int .i64 x, .int .i64 z, .int .i64 s, .int .u16 nn] 44) = w0 at S0 M0 HO hc hf ⊢
 generalize w.heap.size = ob at HO NO ⊢
 have ho := HO.out.2.1
 with_reducible refine (words_41 S0.out (by omega) x z s nn).mono ?_
 rintro e w1 ⟨rfl, v1, s', m'⟩
 have HO' := Lib.hid (m'.has HO.out NO.out)
 have NO' := Lib.hid (m'.far HO.out.1 NO.out)
 clear ho HO NO
 have HO := HO'
 have NO := NO'
 clear HO' NO'
 have ho := HO.out.2.1
 have M1 := Lib.hid (M0.out.trans m')
 obtain ⟨y1, hy⟩ : ∃ q_, q_ = setF (Alu.shiftF y.s.r.sp (nn % 256)) (setSP (Alu.shiftR y.s.r.sp (nn % 256)) (idle (idle y))) := ⟨_, rfl⟩
 rw [← hy] at s'
 have Y1 := Lib.hid hy
 clear hc hf
 obtain ⟨hc, hf⟩ := s'.cp
 have S1 := Lib.hid s'
 clear s' m' hy
 go_wp2
 first | go_end0 | refine bodyPost_ret (results_none rfl _ _ _) rfl ?_
 refine ⟨rfl, v1, ?_, M1.out⟩
 have q := S1.out
 have e := Y1.out.symm
 subst e
 exact Sys.mono (n' := n + 2) q (by omega)
set_option maxHeartbeats 2000000 in
theorem calc_42 (h0 : Sys procD ramC w P R M tb v y n) (hn : n < 960000) (x z s nn : Int) : Calls Tryz.prog 82 #[.pointer (some ⟨P, 0, none⟩), .agg #[.int .i64 42, .int .i64 x, .int .i64 z, .int .i64 s, .int .u16 nn]] w (PE procD ramC P R M tb v w (.tuple #[]) (setF (Alu.shiftF y.s.r.sp (nn % 256)) (pairS 2 (Alu.shiftR y.s.r.sp (nn % 256)) (idle y))) (n + 1)) := by
 have S0 := Lib.hid (h0.below (own1 w (.cells #[.int .i64 42, .int .i64 x, .int .i64 z, .int .i64 s, .int .u16 nn] 44)))
 have M0 := Lib.hid (show PM P R M tb v w v (w.alloc (.cells #[.int .i64 42, .int .i64 x, .int .i64 z, .int .i64 s, .int .u16 nn] 44)) from PM.of (own1 w (.cells #[.int .i64 42, .int .i64 x, .int .i64 z, .int .i64 s, .int .u16 nn] 44)))
 have HO := Lib.hid (Has.new w #[.int .i64 42, .int .i64 x, .int .i64 z, .int .i64 s, .int .u16 nn] 44)
 have NO := Lib.hid (h0.new (Nat.le_refl w.heap.size))
 obtain ⟨hc, hf⟩ := S0.out.cp
 clear h0
 go_enter Tryz.func82, Tryz.ntmps82
 go_wp2_with fail
 generalize w.alloc (.cells #[.int .i64 42, .int .i64 x, .int .i64 z, .int .i64 s, .int .u16 nn] 44) = w0 at S0 M0 HO hc hf ⊢
 generalize w.heap.size = ob at HO NO ⊢
 have ho := HO.out.2.1
 with_reducible refine (words_42 S0.out (by omega) x z s nn).mono ?_
 rintro e w1 ⟨rfl, v1, s', m'⟩
 have HO' := Lib.hid (m'.has HO.out NO.out)
 have NO' := Lib.hid (m'.far HO.out.1 NO.out)
 clear ho HO NO
 have HO := HO'
 have NO := NO'
 clear HO' NO'
 have ho := HO.out.2.1
 have M1 := Lib.hid (M0.out.trans m')
 obtain ⟨y1, hy⟩ : ∃ q_, q_ = setF (Alu.shiftF y.s.r.sp (nn % 256)) (pairS 2 (Alu.shiftR y.s.r.sp (nn % 256)) (idle y)) := ⟨_, rfl⟩
 rw [← hy] at s'
 have Y1 := Lib.hid hy
 clear hc hf
 obtain ⟨hc, hf⟩ := s'.cp
 have S1 := Lib.hid s'
 clear s' m' hy
 go_wp2
 first | go_end0 | refine bodyPost_ret (results_none rfl _ _ _) rfl ?_
 refine ⟨rfl, v1, ?_, M1.out⟩
 have q := S1.out
 have e := Y1.out.symm
 subst e
 exact Sys.mono (n' := n + 1) q (by omega)
set_option maxHeartbeats 2000000 in
theorem calc_1 (h0 : Sys procD ramC w P R M tb v y n) (hn : n < 960000) (x z s nn : Int) : Calls Tryz.prog 82 #[.pointer (some ⟨P, 0, none⟩), .agg #[.int .i64 1, .int .i64 x, .int .i64 z, .int .i64 s, .int .u16 nn]] w (PE procD ramC P R M tb v w (.tuple #[]) (y) (n + 0)) := by
 have S0 := Lib.hid (h0.below (own1 w (.cells #[.int .i64 1, .int .i64 x, .int .i64 z, .int .i64 s, .int .u16 nn] 44)))
 have M0 := Lib.hid (show PM P R M tb v w v (w.alloc (.cells #[.int .i64 1, .int .i64 x, .int .i64 z, .int .i64 s, .int .u16 nn] 44)) from PM.of (own1 w (.cells #[.int .i64 1, .int .i64 x, .int .i64 z, .int .i64 s, .int .u16 nn] 44)))
 have HO := Lib.hid (Has.new w #[.int .i64 1, .int .i64 x, .int .i64 z, .int .i64 s, .int .u16 nn] 44)
 have NO := Lib.hid (h0.new (Nat.le_refl w.heap.size))
 obtain ⟨hc, hf⟩ := S0.out.cp
 clear h0
 go_enter Tryz.func82, Tryz.ntmps82
 go_wp2
 first | go_end0 | refine bodyPost_ret (results_none rfl _ _ _) rfl ?_
 exact ⟨rfl, v, S0.out, M0.out⟩
set_option maxHeartbeats 2000000 in
theorem calc_18 (h0 : Sys procD ramC w P R M tb v y n) (hn : n < 960000) (x z s nn : Int) : Calls Tryz.prog 82 #[.pointer (some ⟨P, 0, none⟩), .agg #[.int .i64 18, .int .i64 x, .int .i64 z, .int .i64 s, .int .u16 nn]] w (PE procD ramC P R M tb v w (.tuple #[]) (setF (Alu.fl 16 (Alu.turnO x y.s.r.a)) (setA (Alu.turnR x y.s.r.a y.s.r.f) y)) (n + 0)) := by
 have ab := h0.ab
 have fb := h0.fb
 have S0 := Lib.hid (h0.below (own1 w (.cells #[.int .i64 18, .int .i64 x, .int .i64 z, .int .i64 s, .int .u16 nn] 44)))
 have M0 := Lib.hid (show PM P R M tb v w v (w.alloc (.cells #[.int .i64 18, .int .i64 x, .int .i64 z, .int .i64 s, .int .u16 nn] 44)) from PM.of (own1 w (.cells #[.int .i64 18, .int .i64 x, .int .i64 z, .int .i64 s, .int .u16 nn] 44)))
 have HO := Lib.hid (Has.new w #[.int .i64 18, .int .i64 x, .int .i64 z, .int .i64 s, .int .u16 nn] 44)
 have NO := Lib.hid (h0.new (Nat.le_refl w.heap.size))
 obtain ⟨hc, hf⟩ := S0.out.cp
 clear h0
 go_enter Tryz.func82, Tryz.ntmps82
 go_wp2
 generalize w.alloc (.cells #[.int .i64 18, .int .i64 x, .int .i64 z, .int .i64 s, .int .u16 nn] 44) = w0 at S0 M0 HO hc hf ⊢
 generalize w.heap.size = ob at HO NO ⊢
 have ho := HO.out.2.1
 have S0' := Lib.hid S0.out.drew
 have M0' := Lib.hid (M0.out.trans (PM.drew P R M tb v w0))
 have HO' := Lib.hid HO.out.drew
 clear ho HO
 have HO := HO'
 clear HO'
 clear hc hf
 refine wp_region_held_drew (S := (fun w' => (∀ j, w'.cell? ⟨ob, j, none⟩ = #[Value.int .i64 18, .int .i64 x, .int .i64 z, .int .i64 s, .int .u16 nn][j]?) ∧ True)) (by kernel_rfl) ⟨HO.out.2.1, trivial⟩ (fun hHeld => ?_)
 generalize World.drew w0 = u0 at hHeld S0' M0' HO ⊢
 clear S0 M0
 have S0 := S0'
 have M0 := M0'
 clear S0' M0'
 refine tk 0 rfl (v := ?v1) ?y1 ?z1
 case y1 => (intro w hSw; (try dsimp only at hSw); go_simp) <;> with_reducible rfl
 try simp only [Act.put, qqA, qqB, qqC]
 refine tk 1 rfl (v := ?v2) ?y2 ?z2
 case y2 => (intro w hSw; (try dsimp only at hSw); go_simp) <;> with_reducible rfl
 try simp only [Act.put, qqA, qqB, qqC]
 refine tk 2 rfl (v := ?v3) ?y3 ?z3
 case y3 => (intro w hSw; (try dsimp only at hSw); go_simp) <;> with_reducible rfl
 try simp only [Act.put, qqA, qqB, qqC]
 refine tk 3 rfl (v := ?v4) ?y4 ?z4
 case y4 => (intro w hSw; (try dsimp only at hSw); go_simp) <;> with_reducible rfl
 try simp only [Act.put, qqA, qqB, qqC]
 refine tk 4 rfl (v := ?v5) ?y5 ?z5
 case y5 => (intro w hSw; (try dsimp only at hSw); go_simp) <;> with_reducible rfl
 try simp only [Act.put, qqA, qqB, qqC]
 refine tk 5 rfl (v := ?v6) ?y6 ?z6
 case y6 => (intro w hSw; (try dsimp only at hSw); go_simp) <;> with_reducible rfl
 try simp only [Act.put, qqA, qqB, qqC]
 refine tk 6 rfl (v := ?v7) ?y7 ?z7
 case y7 => (intro w hSw; (try dsimp only at hSw); go_simp) <;> with_reducible rfl
 try simp only [Act.put, qqA, qqB, qqC]
 refine tk 7 rfl (v := ?v8) ?y8 ?z8
 case y8 => (intro w hSw; (try dsimp only at hSw); go_simp) <;> with_reducible rfl
 try simp only [Act.put, qqA, qqB, qqC]
 refine tk 8 rfl (v := ?v9) ?y9 ?z9
 case y9 => (intro w hSw; (try dsimp only at hSw); go_simp) <;> with_reducible rfl
 try simp only [Act.put, qqA, qqB, qqC]
 refine tk 10 rfl (v := ?v10) ?y10 ?z10
 case y10 => (intro w hSw; (try dsimp only at hSw); go_simp) <;> with_reducible rfl
 try simp only [Act.put, qqA, qqB, qqC]
 refine tk 11 rfl (v := ?v11) ?y11 ?z11
 case y11 => (intro w hSw; (try dsimp only at hSw); go_simp) <;> with_reducible rfl
 try simp only [Act.put, qqA, qqB, qqC]
 refine tk 12 rfl (v := ?v12) ?y12 ?z12
 case y12 => (intro w hSw; (try dsimp only at hSw); go_simp) <;> with_reducible rfl
 try simp only [Act.put, qqA, qqB, qqC]
 refine tk 13 rfl (v := ?v13) ?y13 ?z13
 case y13 => (intro w hSw; (try dsimp only at hSw); go_simp) <;> with_reducible rfl
 try simp only [Act.put, qqA, qqB, qqC]
 refine tk 14 rfl (v := ?v14) ?y14 ?z14
 case y14 => (intro w hSw; (try dsimp only at hSw); go_simp) <;> with_reducible rfl
 try simp only [Act.put, qqA, qqB, qqC]
 refine wpAnyH_ready (rs := [9, 15]) (by kernel_rfl) (by simp) ?_
 refine (ac rfl (fun K hK => ?_) (ac rfl (fun K hK => ?_) AllReadyH.nil))
 ·skip
  obtain ⟨hc, hf⟩ := S0.out.cp
  go_simp
  clear hc hf
  refine hK.out _ _ ?s15 (fun hNew => ?r15)
  case s15 => exact hHeld
  clear hK K hHeld
  have hHeld := hNew
  clear hNew
  try simp only [Act.put, qqA, qqB, qqC]
  refine wpAnyH_ready (rs := [15]) (by kernel_rfl) (by simp) ?_
  refine (ac rfl (fun K hK => ?_) AllReadyH.nil)
  ·skip
   obtain ⟨hc, hf⟩ := S0.out.cp
   go_simp
   clear hc hf
   refine hK.out _ _ ?s16 (fun hNew => ?r16)
   case s16 => exact hHeld
   clear hK K hHeld
   have hHeld := hNew
   clear hNew
   try simp only [Act.put, qqA, qqB, qqC]
   refine wpAnyH_ready (rs := [16]) (by kernel_rfl) (by simp) ?_
   refine (ac rfl (fun K hK => ?_) AllReadyH.nil)
   ·skip
    go_simp
    go_wp2_with (go_at_call 97; (with_reducible refine (Alu.turn_c x y.s.r.a y.s.r.f ab.1 ab.2 fb.1 fb.2 _).mono ?_); rintro e u' ⟨rfl, rfl⟩)
    refine hK.out _ _ ?s17 (fun hNew => ?r17)
    case s17 => exact hHeld
    clear hK K hHeld
    have hHeld := hNew
    clear hNew
    refine tk 17 rfl (v := ?v18) ?y18 ?z18
    case y18 => (intro w hSw; (try dsimp only at hSw); go_simp) <;> with_reducible rfl
    try simp only [Act.put, qqA, qqB, qqC]
    refine tk 18 rfl (v := ?v19) ?y19 ?z19
    case y19 => (intro w hSw; (try dsimp only at hSw); go_simp) <;> with_reducible rfl
    try simp only [Act.put, qqA, qqB, qqC]
    refine tk 19 rfl (v := ?v20) ?y20 ?z20
    case y20 => (intro w hSw; (try dsimp only at hSw); go_simp) <;> with_reducible rfl
    try simp only [Act.put, qqA, qqB, qqC]
    refine tk 20 rfl (v := ?v21) ?y21 ?z21
    case y21 => (intro w hSw; (try dsimp only at hSw); go_simp) <;> with_reducible rfl
    try simp only [Act.put, qqA, qqB, qqC]
    refine tk 21 rfl (v := ?v22) ?y22 ?z22
    case y22 => (intro w hSw; (try dsimp only at hSw); go_simp) <;> with_reducible rfl
    try simp only [Act.put, qqA, qqB, qqC]
    refine tk 22 rfl (v := ?v23) ?y23 ?z23
    case y23 => (intro w hSw; (try dsimp only at hSw); go_simp) <;> with_reducible rfl
    try simp only [Act.put, qqA, qqB, qqC]
    refine tk 23 rfl (v := ?v24) ?y24 ?z24
    case y24 => (intro w hSw; (try dsimp only at hSw); go_simp) <;> with_reducible rfl
    try simp only [Act.put, qqA, qqB, qqC]
    refine wpAnyH_ready (rs := [24]) (by kernel_rfl) (by simp) ?_
    refine (ac rfl (fun K hK => ?_) AllReadyH.nil)
    ·skip
     obtain ⟨hc, hf⟩ := S0.out.cp
     go_simp
     clear hc hf
     have q := S0.out.stA (Alu.turnR x y.s.r.a y.s.r.f) (turnR_b _ _ _ ab.1 ab.2).1 (turnR_b _ _ _ ab.1 ab.2).2
     have s' := q.1
     have m' := q.2
     clear q
     have HO' := Lib.hid (m'.has HO.out NO.out)
     have NO' := Lib.hid (m'.far HO.out.1 NO.out)
     clear HO NO
     have HO := HO'
     have NO := NO'
     clear HO' NO'
     refine hK.out _ _ ?s25 (fun hNew => ?r25)
     case s25 => exact ⟨HO.out.2.1, trivial⟩
     clear hK K hHeld
     have hHeld := hNew
     clear hNew
     generalize World.setCell u0 ⟨P, 0, none⟩ (.int .u8 (Alu.turnR x y.s.r.a y.s.r.f)) = w1 at hHeld s' m' HO ⊢
     have M1 := Lib.hid (M0.out.trans m')
     obtain ⟨y1, hy⟩ : ∃ q_, q_ = setA (Alu.turnR x y.s.r.a y.s.r.f) y := ⟨_, rfl⟩
     rw [← hy] at s'
     have Y1 := Lib.hid hy
     have S1 := Lib.hid s'
     clear s' m' hy
     refine tk 25 rfl (v := ?v26) ?y26 ?z26
     case y26 => (intro w hSw; (try dsimp only at hSw); go_simp) <;> with_reducible rfl
     try simp only [Act.put, qqA, qqB, qqC]
     refine tk 26 rfl (v := ?v27) ?y27 ?z27
     case y27 => (intro w hSw; (try dsimp only at hSw); go_simp) <;> with_reducible rfl
     try simp only [Act.put, qqA, qqB, qqC]
     refine tk 27 rfl (v := ?v28) ?y28 ?z28
     case y28 => (intro w hSw; (try dsimp only at hSw); go_simp) <;> with_reducible rfl
     try simp only [Act.put, qqA, qqB, qqC]
     refine tk 28 rfl (v := ?v29) ?y29 ?z29
     case y29 => (intro w hSw; (try dsimp only at hSw); go_simp) <;> with_reducible rfl
     try simp only [Act.put, qqA, qqB, qqC]
     refine wpAnyH_ready (rs := [29]) (by kernel_rfl) (by simp) ?_
     refine (ac rfl (fun K hK => ?_) AllReadyH.nil)
     ·skip
      obtain ⟨hc, hf⟩ := S1.out.cp
      go_simp
      clear hc hf
      have q := S1.out.stF (Alu.turnF x y.s.r.a y.s.r.f) (Alu.FL_b _ _ _ _).1 (Alu.FL_b _ _ _ _).2
      have s' := q.1
      have m' := q.2
      clear q
      have HO' := Lib.hid (m'.has HO.out NO.out)
      have NO' := Lib.hid (m'.far HO.out.1 NO.out)
      clear HO NO
      have HO := HO'
      have NO := NO'
      clear HO' NO'
      refine hK.out _ _ ?s30 (fun hNew => ?r30)
      case s30 => exact ⟨HO.out.2.1, trivial⟩
      clear hK K hHeld
      have hHeld := hNew
      clear hNew
      generalize World.setCell w1 ⟨P, 1, none⟩ (.int .u8 (Alu.turnF x y.s.r.a y.s.r.f)) = w2 at hHeld s' m' HO ⊢
      have M2 := Lib.hid (M1.out.trans m')
      obtain ⟨y2, hy⟩ : ∃ q_, q_ = setF (Alu.turnF x y.s.r.a y.s.r.f) y1 := ⟨_, rfl⟩
      rw [← hy] at s'
      have Y2 := Lib.hid hy
      have S2 := Lib.hid s'
      clear s' m' hy
      refine wpAnyH_done (by kernel_rfl) ?_ _
      obtain ⟨hc, hf⟩ := S2.out.cp
      have ho := HO.out.2.1
      have tzz := tz x y.s.r.a y.s.r.f
      have ef : y2.s.r.f = Alu.turnF x y.s.r.a y.s.r.f := by rw [Y2.out, Y1.out]; rfl
      rw [ef] at hc
      have EF := Lib.hid ef
      clear ef
      have Q := Lib.hid (S2.out.stF (Alu.fl 16 (Alu.turnO x y.s.r.a)) (Alu.fl_bd 16 (by decide) _).1 (Int.lt_of_le_of_lt (Alu.fl_bd 16 (by decide) _).2 (by decide)))
      go_wp2
      first | go_end0 | refine bodyPost_ret (results_none rfl _ _ _) rfl ?_
      refine ⟨rfl, v, ?_, M2.out.trans Q.out.2⟩
      have q := Q.out.1
      have e1 : setF (Alu.fl 16 (Alu.turnO x y.s.r.a)) (setA (Alu.turnR x y.s.r.a y.s.r.f) y) = setF (Alu.fl 16 (Alu.turnO x y.s.r.a)) y2 := by rw [Y2.out, Y1.out]; rfl
      rw [e1]
      exact Sys.mono (n' := n + 0) q (by omega)
 ·skip
  obtain ⟨hc, hf⟩ := S0.out.cp
  go_simp
  clear hc hf
  refine hK.out _ _ ?s31 (fun hNew => ?r31)
  case s31 => exact hHeld
  clear hK K hHeld
  have hHeld := hNew
  clear hNew
  try simp only [Act.put, qqA, qqB, qqC]
  refine wpAnyH_ready (rs := [9]) (by kernel_rfl) (by simp) ?_
  refine (ac rfl (fun K hK => ?_) AllReadyH.nil)
  ·skip
   obtain ⟨hc, hf⟩ := S0.out.cp
   go_simp
   clear hc hf
   refine hK.out _ _ ?s32 (fun hNew => ?r32)
   case s32 => exact hHeld
   clear hK K hHeld
   have hHeld := hNew
   clear hNew
   try simp only [Act.put, qqA, qqB, qqC]
   refine wpAnyH_ready (rs := [16]) (by kernel_rfl) (by simp) ?_
   refine (ac rfl (fun K hK => ?_) AllReadyH.nil)
   ·skip
    go_simp
    go_wp2_with (go_at_call 97; (with_reducible refine (Alu.turn_c x y.s.r.a y.s.r.f ab.1 ab.2 fb.1 fb.2 _).mono ?_); rintro e u' ⟨rfl, rfl⟩)
    refine hK.out _ _ ?s33 (fun hNew => ?r33)
    case s33 => exact hHeld
    clear hK K hHeld
    have hHeld := hNew
    clear hNew
    refine tk 17 rfl (v := ?v34) ?y34 ?z34
    case y34 => (intro w hSw; (try dsimp only at hSw); go_simp) <;> with_reducible rfl
    try simp only [Act.put, qqA, qqB, qqC]
    refine tk 18 rfl (v := ?v35) ?y35 ?z35
    case y35 => (intro w hSw; (try dsimp only at hSw); go_simp) <;> with_reducible rfl
    try simp only [Act.put, qqA, qqB, qqC]
    refine tk 19 rfl (v := ?v36) ?y36 ?z36
    case y36 => (intro w hSw; (try dsimp only at hSw); go_simp) <;> with_reducible rfl
    try simp only [Act.put, qqA, qqB, qqC]
    refine tk 20 rfl (v := ?v37) ?y37 ?z37
    case y37 => (intro w hSw; (try dsimp only at hSw); go_simp) <;> with_reducible rfl
    try simp only [Act.put, qqA, qqB, qqC]
    refine tk 21 rfl (v := ?v38) ?y38 ?z38
    case y38 => (intro w hSw; (try dsimp only at hSw); go_simp) <;> with_reducible rfl
    try simp only [Act.put, qqA, qqB, qqC]
    refine tk 22 rfl (v := ?v39) ?y39 ?z39
    case y39 => (intro w hSw; (try dsimp only at hSw); go_simp) <;> with_reducible rfl
    try simp only [Act.put, qqA, qqB, qqC]
    refine tk 23 rfl (v := ?v40) ?y40 ?z40
    case y40 => (intro w hSw; (try dsimp only at hSw); go_simp) <;> with_reducible rfl
    try simp only [Act.put, qqA, qqB, qqC]
    refine wpAnyH_ready (rs := [24]) (by kernel_rfl) (by simp) ?_
    refine (ac rfl (fun K hK => ?_) AllReadyH.nil)
    ·skip
     obtain ⟨hc, hf⟩ := S0.out.cp
     go_simp
     clear hc hf
     have q := S0.out.stA (Alu.turnR x y.s.r.a y.s.r.f) (turnR_b _ _ _ ab.1 ab.2).1 (turnR_b _ _ _ ab.1 ab.2).2
     have s' := q.1
     have m' := q.2
     clear q
     have HO' := Lib.hid (m'.has HO.out NO.out)
     have NO' := Lib.hid (m'.far HO.out.1 NO.out)
     clear HO NO
     have HO := HO'
     have NO := NO'
     clear HO' NO'
     refine hK.out _ _ ?s41 (fun hNew => ?r41)
     case s41 => exact ⟨HO.out.2.1, trivial⟩
     clear hK K hHeld
     have hHeld := hNew
     clear hNew
     generalize World.setCell u0 ⟨P, 0, none⟩ (.int .u8 (Alu.turnR x y.s.r.a y.s.r.f)) = w1 at hHeld s' m' HO ⊢
     have M1 := Lib.hid (M0.out.trans m')
     obtain ⟨y1, hy⟩ : ∃ q_, q_ = setA (Alu.turnR x y.s.r.a y.s.r.f) y := ⟨_, rfl⟩
     rw [← hy] at s'
     have Y1 := Lib.hid hy
     have S1 := Lib.hid s'
     clear s' m' hy
     refine tk 25 rfl (v := ?v42) ?y42 ?z42
     case y42 => (intro w hSw; (try dsimp only at hSw); go_simp) <;> with_reducible rfl
     try simp only [Act.put, qqA, qqB, qqC]
     refine tk 26 rfl (v := ?v43) ?y43 ?z43
     case y43 => (intro w hSw; (try dsimp only at hSw); go_simp) <;> with_reducible rfl
     try simp only [Act.put, qqA, qqB, qqC]
     refine tk 27 rfl (v := ?v44) ?y44 ?z44
     case y44 => (intro w hSw; (try dsimp only at hSw); go_simp) <;> with_reducible rfl
     try simp only [Act.put, qqA, qqB, qqC]
     refine tk 28 rfl (v := ?v45) ?y45 ?z45
     case y45 => (intro w hSw; (try dsimp only at hSw); go_simp) <;> with_reducible rfl
     try simp only [Act.put, qqA, qqB, qqC]
     refine wpAnyH_ready (rs := [29]) (by kernel_rfl) (by simp) ?_
     refine (ac rfl (fun K hK => ?_) AllReadyH.nil)
     ·skip
      obtain ⟨hc, hf⟩ := S1.out.cp
      go_simp
      clear hc hf
      have q := S1.out.stF (Alu.turnF x y.s.r.a y.s.r.f) (Alu.FL_b _ _ _ _).1 (Alu.FL_b _ _ _ _).2
      have s' := q.1
      have m' := q.2
      clear q
      have HO' := Lib.hid (m'.has HO.out NO.out)
      have NO' := Lib.hid (m'.far HO.out.1 NO.out)
      clear HO NO
      have HO := HO'
      have NO := NO'
      clear HO' NO'
      refine hK.out _ _ ?s46 (fun hNew => ?r46)
      case s46 => exact ⟨HO.out.2.1, trivial⟩
      clear hK K hHeld
      have hHeld := hNew
      clear hNew
      generalize World.setCell w1 ⟨P, 1, none⟩ (.int .u8 (Alu.turnF x y.s.r.a y.s.r.f)) = w2 at hHeld s' m' HO ⊢
      have M2 := Lib.hid (M1.out.trans m')
      obtain ⟨y2, hy⟩ : ∃ q_, q_ = setF (Alu.turnF x y.s.r.a y.s.r.f) y1 := ⟨_, rfl⟩
      rw [← hy] at s'
      have Y2 := Lib.hid hy
      have S2 := Lib.hid s'
      clear s' m' hy
      refine wpAnyH_done (by kernel_rfl) ?_ _
      obtain ⟨hc, hf⟩ := S2.out.cp
      have ho := HO.out.2.1
      have tzz := tz x y.s.r.a y.s.r.f
      have ef : y2.s.r.f = Alu.turnF x y.s.r.a y.s.r.f := by rw [Y2.out, Y1.out]; rfl
      rw [ef] at hc
      have EF := Lib.hid ef
      clear ef
      have Q := Lib.hid (S2.out.stF (Alu.fl 16 (Alu.turnO x y.s.r.a)) (Alu.fl_bd 16 (by decide) _).1 (Int.lt_of_le_of_lt (Alu.fl_bd 16 (by decide) _).2 (by decide)))
      go_wp2
      first | go_end0 | refine bodyPost_ret (results_none rfl _ _ _) rfl ?_
      refine ⟨rfl, v, ?_, M2.out.trans Q.out.2⟩
      have q := Q.out.1
      have e1 : setF (Alu.fl 16 (Alu.turnO x y.s.r.a)) (setA (Alu.turnR x y.s.r.a y.s.r.f) y) = setF (Alu.fl 16 (Alu.turnO x y.s.r.a)) y2 := by rw [Y2.out, Y1.out]; rfl
      rw [e1]
      exact Sys.mono (n' := n + 0) q (by omega)
set_option maxHeartbeats 2000000 in
theorem calc_19 (h0 : Sys procD ramC w P R M tb v y n) (hn : n < 960000) (x z s nn : Int) : Calls Tryz.prog 82 #[.pointer (some ⟨P, 0, none⟩), .agg #[.int .i64 19, .int .i64 x, .int .i64 z, .int .i64 s, .int .u16 nn]] w (PE procD ramC P R M tb v w (.tuple #[]) (setF (Alu.daaF y.s.r.a y.s.r.f) (setA (Alu.daaR y.s.r.a y.s.r.f) y)) (n + 0)) := by
 have ab := h0.ab
 have fb := h0.fb
 have S0 := Lib.hid (h0.below (own1 w (.cells #[.int .i64 19, .int .i64 x, .int .i64 z, .int .i64 s, .int .u16 nn] 44)))
 have M0 := Lib.hid (show PM P R M tb v w v (w.alloc (.cells #[.int .i64 19, .int .i64 x, .int .i64 z, .int .i64 s, .int .u16 nn] 44)) from PM.of (own1 w (.cells #[.int .i64 19, .int .i64 x, .int .i64 z, .int .i64 s, .int .u16 nn] 44)))
 have HO := Lib.hid (Has.new w #[.int .i64 19, .int .i64 x, .int .i64 z, .int .i64 s, .int .u16 nn] 44)
 have NO := Lib.hid (h0.new (Nat.le_refl w.heap.size))
 obtain ⟨hc, hf⟩ := S0.out.cp
 clear h0
 go_enter Tryz.func82, Tryz.ntmps82
 go_wp2
 generalize w.alloc (.cells #[.int .i64 19, .int .i64 x, .int .i64 z, .int .i64 s, .int .u16 nn] 44) = w0 at S0 M0 HO hc hf ⊢
 generalize w.heap.size = ob at HO NO ⊢
 have ho := HO.out.2.1
 have S0' := Lib.hid S0.out.drew
 have M0' := Lib.hid (M0.out.trans (PM.drew P R M tb v w0))
 have HO' := Lib.hid HO.out.drew
 clear ho HO
 have HO := HO'
 clear HO'
 clear hc hf
 refine wp_region_held_drew (S := (fun w' => (∀ j, w'.cell? ⟨ob, j, none⟩ = #[Value.int .i64 19, .int .i64 x, .int .i64 z, .int .i64 s, .int .u16 nn][j]?) ∧ True)) (by kernel_rfl) ⟨HO.out.2.1, trivial⟩ (fun hHeld => ?_)
 generalize World.drew w0 = u0 at hHeld S0' M0' HO ⊢
 clear S0 M0
 have S0 := S0'
 have M0 := M0'
 clear S0' M0'
 refine tk 0 rfl (v := ?v1) ?y1 ?z1
 case y1 => (intro w hSw; (try dsimp only at hSw); go_simp) <;> with_reducible rfl
 try simp only [Act.put, qqA, qqB, qqC]
 refine tk 1 rfl (v := ?v2) ?y2 ?z2
 case y2 => (intro w hSw; (try dsimp only at hSw); go_simp) <;> with_reducible rfl
 try simp only [Act.put, qqA, qqB, qqC]
 refine tk 2 rfl (v := ?v3) ?y3 ?z3
 case y3 => (intro w hSw; (try dsimp only at hSw); go_simp) <;> with_reducible rfl
 try simp only [Act.put, qqA, qqB, qqC]
 refine tk 3 rfl (v := ?v4) ?y4 ?z4
 case y4 => (intro w hSw; (try dsimp only at hSw); go_simp) <;> with_reducible rfl
 try simp only [Act.put, qqA, qqB, qqC]
 refine tk 4 rfl (v := ?v5) ?y5 ?z5
 case y5 => (intro w hSw; (try dsimp only at hSw); go_simp) <;> with_reducible rfl
 try simp only [Act.put, qqA, qqB, qqC]
 refine tk 5 rfl (v := ?v6) ?y6 ?z6
 case y6 => (intro w hSw; (try dsimp only at hSw); go_simp) <;> with_reducible rfl
 try simp only [Act.put, qqA, qqB, qqC]
 refine tk 6 rfl (v := ?v7) ?y7 ?z7
 case y7 => (intro w hSw; (try dsimp only at hSw); go_simp) <;> with_reducible rfl
 try simp only [Act.put, qqA, qqB, qqC]
 refine tk 8 rfl (v := ?v8) ?y8 ?z8
 case y8 => (intro w hSw; (try dsimp only at hSw); go_simp) <;> with_reducible rfl
 try simp only [Act.put, qqA, qqB, qqC]
 refine tk 9 rfl (v := ?v9) ?y9 ?z9
 case y9 => (intro w hSw; (try dsimp only at hSw); go_simp) <;> with_reducible rfl
 try simp only [Act.put, qqA, qqB, qqC]
 refine tk 10 rfl (v := ?v10) ?y10 ?z10
 case y10 => (intro w hSw; (try dsimp only at hSw); go_simp) <;> with_reducible rfl
 try simp only [Act.put, qqA, qqB, qqC]
 refine tk 11 rfl (v := ?v11) ?y11 ?z11
 case y11 => (intro w hSw; (try dsimp only at hSw); go_simp) <;> with_reducible rfl
 try simp only [Act.put, qqA, qqB, qqC]
 refine tk 12 rfl (v := ?v12) ?y12 ?z12
 case y12 => (intro w hSw; (try dsimp only at hSw); go_simp) <;> with_reducible rfl
 try simp only [Act.put, qqA, qqB, qqC]
 refine wpAnyH_ready (rs := [7, 13]) (by kernel_rfl) (by simp) ?_
 refine (ac rfl (fun K hK => ?_) (ac rfl (fun K hK => ?_) AllReadyH.nil))
 ·skip
  obtain ⟨hc, hf⟩ := S0.out.cp
  go_simp
  clear hc hf
  refine hK.out _ _ ?s13 (fun hNew => ?r13)
  case s13 => exact hHeld
  clear hK K hHeld
  have hHeld := hNew
  clear hNew
  try simp only [Act.put, qqA, qqB, qqC]
  refine wpAnyH_ready (rs := [13]) (by kernel_rfl) (by simp) ?_
  refine (ac rfl (fun K hK => ?_) AllReadyH.nil)
  ·skip
   obtain ⟨hc, hf⟩ := S0.out.cp
   go_simp
   clear hc hf
   refine hK.out _ _ ?s14 (fun hNew => ?r14)
   case s14 => exact hHeld
   clear hK K hHeld
   have hHeld := hNew
   clear hNew
   try simp only [Act.put, qqA, qqB, qqC]
   refine wpAnyH_ready (rs := [14]) (by kernel_rfl) (by simp) ?_
   refine (ac rfl (fun K hK => ?_) AllReadyH.nil)
   ·skip
    go_simp
    go_wp2_with (go_at_call 98; (with_reducible refine (Alu.daa_c y.s.r.a y.s.r.f ab.1 ab.2 fb.1 fb.2 _).mono ?_); rintro e u' ⟨rfl, rfl⟩)
    refine hK.out _ _ ?s15 (fun hNew => ?r15)
    case s15 => exact hHeld
    clear hK K hHeld
    have hHeld := hNew
    clear hNew
    refine tk 15 rfl (v := ?v16) ?y16 ?z16
    case y16 => (intro w hSw; (try dsimp only at hSw); go_simp) <;> with_reducible rfl
    try simp only [Act.put, qqA, qqB, qqC]
    refine tk 16 rfl (v := ?v17) ?y17 ?z17
    case y17 => (intro w hSw; (try dsimp only at hSw); go_simp) <;> with_reducible rfl
    try simp only [Act.put, qqA, qqB, qqC]
    refine tk 17 rfl (v := ?v18) ?y18 ?z18
    case y18 => (intro w hSw; (try dsimp only at hSw); go_simp) <;> with_reducible rfl
    try simp only [Act.put, qqA, qqB, qqC]
    refine tk 18 rfl (v := ?v19) ?y19 ?z19
    case y19 => (intro w hSw; (try dsimp only at hSw); go_simp) <;> with_reducible rfl
    try simp only [Act.put, qqA, qqB, qqC]
    refine tk 19 rfl (v := ?v20) ?y20 ?z20
    case y20 => (intro w hSw; (try dsimp only at hSw); go_simp) <;> with_reducible rfl
    try simp only [Act.put, qqA, qqB, qqC]
    refine tk 20 rfl (v := ?v21) ?y21 ?z21
    case y21 => (intro w hSw; (try dsimp only at hSw); go_simp) <;> with_reducible rfl
    try simp only [Act.put, qqA, qqB, qqC]
    refine tk 21 rfl (v := ?v22) ?y22 ?z22
    case y22 => (intro w hSw; (try dsimp only at hSw); go_simp) <;> with_reducible rfl
    try simp only [Act.put, qqA, qqB, qqC]
    refine wpAnyH_ready (rs := [22]) (by kernel_rfl) (by simp) ?_
    refine (ac rfl (fun K hK => ?_) AllReadyH.nil)
    ·skip
     obtain ⟨hc, hf⟩ := S0.out.cp
     go_simp
     clear hc hf
     have q := S0.out.stA (Alu.daaR y.s.r.a y.s.r.f) (daaR_b _ _).1 (daaR_b _ _).2
     have s' := q.1
     have m' := q.2
     clear q
     have HO' := Lib.hid (m'.has HO.out NO.out)
     have NO' := Lib.hid (m'.far HO.out.1 NO.out)
     clear HO NO
     have HO := HO'
     have NO := NO'
     clear HO' NO'
     refine hK.out _ _ ?s23 (fun hNew => ?r23)
     case s23 => exact ⟨HO.out.2.1, trivial⟩
     clear hK K hHeld
     have hHeld := hNew
     clear hNew
     generalize World.setCell u0 ⟨P, 0, none⟩ (.int .u8 (Alu.daaR y.s.r.a y.s.r.f)) = w1 at hHeld s' m' HO ⊢
     have M1 := Lib.hid (M0.out.trans m')
     obtain ⟨y1, hy⟩ : ∃ q_, q_ = setA (Alu.daaR y.s.r.a y.s.r.f) y := ⟨_, rfl⟩
     rw [← hy] at s'
     have Y1 := Lib.hid hy
     have S1 := Lib.hid s'
     clear s' m' hy
     refine tk 23 rfl (v := ?v24) ?y24 ?z24
     case y24 => (intro w hSw; (try dsimp only at hSw); go_simp) <;> with_reducible rfl
     try simp only [Act.put, qqA, qqB, qqC]
     refine tk 24 rfl (v := ?v25) ?y25 ?z25
     case y25 => (intro w hSw; (try dsimp only at hSw); go_simp) <;> with_reducible rfl
     try simp only [Act.put, qqA, qqB, qqC]
     refine tk 25 rfl (v := ?v26) ?y26 ?z26
     case y26 => (intro w hSw; (try dsimp only at hSw); go_simp) <;> with_reducible rfl
     try simp only [Act.put, qqA, qqB, qqC]
     refine tk 26 rfl (v := ?v27) ?y27 ?z27
     case y27 => (intro w hSw; (try dsimp only at hSw); go_simp) <;> with_reducible rfl
     try simp only [Act.put, qqA, qqB, qqC]
     refine wpAnyH_ready (rs := [27]) (by kernel_rfl) (by simp) ?_
     refine (ac rfl (fun K hK => ?_) AllReadyH.nil)
     ·skip
      obtain ⟨hc, hf⟩ := S1.out.cp
      go_simp
      clear hc hf
      have q := S1.out.stF (Alu.daaF y.s.r.a y.s.r.f) (Alu.FL_b _ _ _ _).1 (Alu.FL_b _ _ _ _).2
      have s' := q.1
      have m' := q.2
      clear q
      have HO' := Lib.hid (m'.has HO.out NO.out)
      have NO' := Lib.hid (m'.far HO.out.1 NO.out)
      clear HO NO
      have HO := HO'
      have NO := NO'
      clear HO' NO'
      refine hK.out _ _ ?s28 (fun hNew => ?r28)
      case s28 => exact ⟨HO.out.2.1, trivial⟩
      clear hK K hHeld
      have hHeld := hNew
      clear hNew
      generalize World.setCell w1 ⟨P, 1, none⟩ (.int .u8 (Alu.daaF y.s.r.a y.s.r.f)) = w2 at hHeld s' m' HO ⊢
      have M2 := Lib.hid (M1.out.trans m')
      obtain ⟨y2, hy⟩ : ∃ q_, q_ = setF (Alu.daaF y.s.r.a y.s.r.f) y1 := ⟨_, rfl⟩
      rw [← hy] at s'
      have Y2 := Lib.hid hy
      have S2 := Lib.hid s'
      clear s' m' hy
      refine wpAnyH_done (by kernel_rfl) ?_ _
      obtain ⟨hc, hf⟩ := S2.out.cp
      have ho := HO.out.2.1
      go_wp2
      first | go_end0 | refine bodyPost_ret (results_none rfl _ _ _) rfl ?_
      refine ⟨rfl, v, ?_, M2.out⟩
      have q := S2.out
      have e := Y2.out.symm
      subst e
      have e := Y1.out.symm
      subst e
      exact Sys.mono (n' := n + 0) q (by omega)
 ·skip
  obtain ⟨hc, hf⟩ := S0.out.cp
  go_simp
  clear hc hf
  refine hK.out _ _ ?s29 (fun hNew => ?r29)
  case s29 => exact hHeld
  clear hK K hHeld
  have hHeld := hNew
  clear hNew
  try simp only [Act.put, qqA, qqB, qqC]
  refine wpAnyH_ready (rs := [7]) (by kernel_rfl) (by simp) ?_
  refine (ac rfl (fun K hK => ?_) AllReadyH.nil)
  ·skip
   obtain ⟨hc, hf⟩ := S0.out.cp
   go_simp
   clear hc hf
   refine hK.out _ _ ?s30 (fun hNew => ?r30)
   case s30 => exact hHeld
   clear hK K hHeld
   have hHeld := hNew
   clear hNew
   try simp only [Act.put, qqA, qqB, qqC]
   refine wpAnyH_ready (rs := [14]) (by kernel_rfl) (by simp) ?_
   refine (ac rfl (fun K hK => ?_) AllReadyH.nil)
   ·skip
    go_simp
    go_wp2_with (go_at_call 98; (with_reducible refine (Alu.daa_c y.s.r.a y.s.r.f ab.1 ab.2 fb.1 fb.2 _).mono ?_); rintro e u' ⟨rfl, rfl⟩)
    refine hK.out _ _ ?s31 (fun hNew => ?r31)
    case s31 => exact hHeld
    clear hK K hHeld
    have hHeld := hNew
    clear hNew
    refine tk 15 rfl (v := ?v32) ?y32 ?z32
    case y32 => (intro w hSw; (try dsimp only at hSw); go_simp) <;> with_reducible rfl
    try simp only [Act.put, qqA, qqB, qqC]
    refine tk 16 rfl (v := ?v33) ?y33 ?z33
    case y33 => (intro w hSw; (try dsimp only at hSw); go_simp) <;> with_reducible rfl
    try simp only [Act.put, qqA, qqB, qqC]
    refine tk 17 rfl (v := ?v34) ?y34 ?z34
    case y34 => (intro w hSw; (try dsimp only at hSw); go_simp) <;> with_reducible rfl
    try simp only [Act.put, qqA, qqB, qqC]
    refine tk 18 rfl (v := ?v35) ?y35 ?z35
    case y35 => (intro w hSw; (try dsimp only at hSw); go_simp) <;> with_reducible rfl
    try simp only [Act.put, qqA, qqB, qqC]
    refine tk 19 rfl (v := ?v36) ?y36 ?z36
    case y36 => (intro w hSw; (try dsimp only at hSw); go_simp) <;> with_reducible rfl
    try simp only [Act.put, qqA, qqB, qqC]
    refine tk 20 rfl (v := ?v37) ?y37 ?z37
    case y37 => (intro w hSw; (try dsimp only at hSw); go_simp) <;> with_reducible rfl
    try simp only [Act.put, qqA, qqB, qqC]
    refine tk 21 rfl (v := ?v38) ?y38 ?z38
    case y38 => (intro w hSw; (try dsimp only at hSw); go_simp) <;> with_reducible rfl
    try simp only [Act.put, qqA, qqB, qqC]
    refine wpAnyH_ready (rs := [22]) (by kernel_rfl) (by simp) ?_
    refine (ac rfl (fun K hK => ?_) AllReadyH.nil)
    ·skip
     obtain ⟨hc, hf⟩ := S0.out.cp
     go_simp
     clear hc hf
     have q := S0.out.stA (Alu.daaR y.s.r.a y.s.r.f) (daaR_b _ _).1 (daaR_b _ _).2
     have s' := q.1
     have m' := q.2
     clear q
     have HO' := Lib.hid (m'.has HO.out NO.out)
     have NO' := Lib.hid (m'.far HO.out.1 NO.out)
     clear HO NO
     have HO := HO'
     have NO := NO'
     clear HO' NO'
     refine hK.out _ _ ?s39 (fun hNew => ?r39)
     case s39 => exact ⟨HO.out.2.1, trivial⟩
     clear hK K hHeld
     have hHeld := hNew
     clear hNew
     generalize World.setCell u0 ⟨P, 0, none⟩ (.int .u8 (Alu.daaR y.s.r.a y.s.r.f)) = w1 at hHeld s' m' HO ⊢
     have M1 := Lib.hid (M0.out.trans m')
     obtain ⟨y1, hy⟩ : ∃ q_, q_ = setA (Alu.daaR y.s.r.a y.s.r.f) y := ⟨_, rfl⟩
     rw [← hy] at s'
     have Y1 := Lib.hid hy
     have S1 := Lib.hid s'
     clear s' m' hy
     refine tk 23 rfl (v := ?v40) ?y40 ?z40
     case y40 => (intro w hSw; (try dsimp only at hSw); go_simp) <;> with_reducible rfl
     try simp only [Act.put, qqA, qqB, qqC]
     refine tk 24 rfl (v := ?v41) ?y41 ?z41
     case y41 => (intro w hSw; (try dsimp only at hSw); go_simp) <;> with_reducible rfl
     try simp only [Act.put, qqA, qqB, qqC]
     refine tk 25 rfl (v := ?v42) ?y42 ?z42
     case y42 => (intro w hSw; (try dsimp only at hSw); go_simp) <;> with_reducible rfl
     try simp only [Act.put, qqA, qqB, qqC]
     refine tk 26 rfl (v := ?v43) ?y43 ?z43
     case y43 => (intro w hSw; (try dsimp only at hSw); go_simp) <;> with_reducible rfl
     try simp only [Act.put, qqA, qqB, qqC]
     refine wpAnyH_ready (rs := [27]) (by kernel_rfl) (by simp) ?_
     refine (ac rfl (fun K hK => ?_) AllReadyH.nil)
     ·skip
      obtain ⟨hc, hf⟩ := S1.out.cp
      go_simp
      clear hc hf
      have q := S1.out.stF (Alu.daaF y.s.r.a y.s.r.f) (Alu.FL_b _ _ _ _).1 (Alu.FL_b _ _ _ _).2
      have s' := q.1
      have m' := q.2
      clear q
      have HO' := Lib.hid (m'.has HO.out NO.out)
      have NO' := Lib.hid (m'.far HO.out.1 NO.out)
      clear HO NO
      have HO := HO'
      have NO := NO'
      clear HO' NO'
      refine hK.out _ _ ?s44 (fun hNew => ?r44)
      case s44 => exact ⟨HO.out.2.1, trivial⟩
      clear hK K hHeld
      have hHeld := hNew
      clear hNew
      generalize World.setCell w1 ⟨P, 1, none⟩ (.int .u8 (Alu.daaF y.s.r.a y.s.r.f)) = w2 at hHeld s' m' HO ⊢
      have M2 := Lib.hid (M1.out.trans m')
      obtain ⟨y2, hy⟩ : ∃ q_, q_ = setF (Alu.daaF y.s.r.a y.s.r.f) y1 := ⟨_, rfl⟩
      rw [← hy] at s'
      have Y2 := Lib.hid hy
      have S2 := Lib.hid s'
      clear s' m' hy
      refine wpAnyH_done (by kernel_rfl) ?_ _
      obtain ⟨hc, hf⟩ := S2.out.cp
      have ho := HO.out.2.1
      go_wp2
      first | go_end0 | refine bodyPost_ret (results_none rfl _ _ _) rfl ?_
      refine ⟨rfl, v, ?_, M2.out⟩
      have q := S2.out
      have e := Y2.out.symm
      subst e
      have e := Y1.out.symm
      subst e
      exact Sys.mono (n' := n + 0) q (by omega)
set_option maxHeartbeats 2000000 in
theorem calc_20 (h0 : Sys procD ramC w P R M tb v y n) (hn : n < 960000) (x z s nn : Int) : Calls Tryz.prog 82 #[.pointer (some ⟨P, 0, none⟩), .agg #[.int .i64 20, .int .i64 x, .int .i64 z, .int .i64 s, .int .u16 nn]] w (PE procD ramC P R M tb v w (.tuple #[]) (setF (Alu.FL (Alu.zf y.s.r.f) true true (Alu.cf y.s.r.f)) (setA (255 - y.s.r.a) y)) (n + 0)) := by
 have ab := h0.ab
 have fb := h0.fb
 have hx := fl96 y.s.r.f fb.1 fb.2
 have hxx := cpl8 y.s.r.a ab.1 ab.2
 have S0 := Lib.hid (h0.below (own1 w (.cells #[.int .i64 20, .int .i64 x, .int .i64 z, .int .i64 s, .int .u16 nn] 44)))
 have M0 := Lib.hid (show PM P R M tb v w v (w.alloc (.cells #[.int .i64 20, .int .i64 x, .int .i64 z, .int .i64 s, .int .u16 nn] 44)) from PM.of (own1 w (.cells #[.int .i64 20, .int .i64 x, .int .i64 z, .int .i64 s, .int .u16 nn] 44)))
 have HO := Lib.hid (Has.new w #[.int .i64 20, .int .i64 x, .int .i64 z, .int .i64 s, .int .u16 nn] 44)
 have NO := Lib.hid (h0.new (Nat.le_refl w.heap.size))
 obtain ⟨hc, hf⟩ := S0.out.cp
 clear h0
 go_enter Tryz.func82, Tryz.ntmps82
 go_wp2_with fail
 generalize w.alloc (.cells #[.int .i64 20, .int .i64 x, .int .i64 z, .int .i64 s, .int .u16 nn] 44) = w0 at S0 M0 HO hc hf ⊢
 generalize w.heap.size = ob at HO NO ⊢
 have ho := HO.out.2.1
 (try rw [hxx])
 clear hxx
 have q := S0.out.stA (255 - y.s.r.a) (by omega) (by omega)
 have s' := q.1
 have m' := q.2
 clear q
 generalize (World.setCell w0 ⟨P, 0, none⟩ (.int .u8 (255 - y.s.r.a))) = w1 at s' m' ⊢
 have HO' := Lib.hid (m'.has HO.out NO.out)
 have NO' := Lib.hid (m'.far HO.out.1 NO.out)
 clear ho HO NO
 have HO := HO'
 have NO := NO'
 clear HO' NO'
 have ho := HO.out.2.1
 have M1 := Lib.hid (M0.out.trans m')
 obtain ⟨y1, hy⟩ : ∃ q_, q_ = setA (255 - y.s.r.a) y := ⟨_, rfl⟩
 rw [← hy] at s'
 have Y1 := Lib.hid hy
 clear hc hf
 obtain ⟨hc, hf⟩ := s'.cp
 have S1 := Lib.hid s'
 clear s' m' hy
 with_reducible refine (kept_p S1.out (by omega) 144).mono ?_
 rintro e w2 ⟨rfl, v2, s', m'⟩
 have HO' := Lib.hid (m'.has HO.out NO.out)
 have NO' := Lib.hid (m'.far HO.out.1 NO.out)
 clear ho HO NO
 have HO := HO'
 have NO := NO'
 clear HO' NO'
 have ho := HO.out.2.1
 have M2 := Lib.hid (M1.out.trans m')
 obtain ⟨y2, hy⟩ : ∃ q_, q_ = y1 := ⟨_, rfl⟩
 rw [← hy] at s'
 have Y2 := Lib.hid hy
 clear hc hf
 obtain ⟨hc, hf⟩ := s'.cp
 have S2 := Lib.hid s'
 clear s' m' hy
 have e2 : y1.s.r.f = y.s.r.f := by rw [Y1.out]; rfl
 rw [e2]
 have E2 := Lib.hid e2
 clear e2
 go_wp2
 have Q := Lib.hid (S2.out.stF (Alu.FL (Alu.zf y.s.r.f) true true (Alu.cf y.s.r.f)) (Alu.FL_b _ _ _ _).1 (Alu.FL_b _ _ _ _).2)
 first | go_end0 | refine bodyPost_ret (results_none rfl _ _ _) rfl ?_
 refine ⟨rfl, v2, ?_, M2.out.trans Q.out.2⟩
 have q := Q.out.1
 have e := Y2.out.symm
 subst e
 have e := Y1.out.symm
 subst e
 exact Sys.mono (n' := n + 0) q (by omega)
set_option maxHeartbeats 2000000 in
theorem calc_21 (h0 : Sys procD ramC w P R M tb v y n) (hn : n < 960000) (x z s nn : Int) : Calls Tryz.prog 82 #[.pointer (some ⟨P, 0, none⟩), .agg #[.int .i64 21, .int .i64 x, .int .i64 z, .int .i64 s, .int .u16 nn]] w (PE procD ramC P R M tb v w (.tuple #[]) (setF (Alu.FL (Alu.zf y.s.r.f) false false true) y) (n + 0)) := by
 have fb := h0.fb
 have hx := fl128 y.s.r.f fb.1 fb.2
 have S0 := Lib.hid (h0.below (own1 w (.cells #[.int .i64 21, .int .i64 x, .int .i64 z, .int .i64 s, .int .u16 nn] 44)))
 have M0 := Lib.hid (show PM P R M tb v w v (w.alloc (.cells #[.int .i64 21, .int .i64 x, .int .i64 z, .int .i64 s, .int .u16 nn] 44)) from PM.of (own1 w (.cells #[.int .i64 21, .int .i64 x, .int .i64 z, .int .i64 s, .int .u16 nn] 44)))
 have HO := Lib.hid (Has.new w #[.int .i64 21, .int .i64 x, .int .i64 z, .int .i64 s, .int .u16 nn] 44)
 have NO := Lib.hid (h0.new (Nat.le_refl w.heap.size))
 obtain ⟨hc, hf⟩ := S0.out.cp
 clear h0
 go_enter Tryz.func82, Tryz.ntmps82
 go_wp2_with fail
 generalize w.alloc (.cells #[.int .i64 21, .int .i64 x, .int .i64 z, .int .i64 s, .int .u16 nn] 44) = w0 at S0 M0 HO hc hf ⊢
 generalize w.heap.size = ob at HO NO ⊢
 have ho := HO.out.2.1
 with_reducible refine (kept_p S0.out (by omega) 128).mono ?_
 rintro e w1 ⟨rfl, v1, s', m'⟩
 have HO' := Lib.hid (m'.has HO.out NO.out)
 have NO' := Lib.hid (m'.far HO.out.1 NO.out)
 clear ho HO NO
 have HO := HO'
 have NO := NO'
 clear HO' NO'
 have ho := HO.out.2.1
 have M1 := Lib.hid (M0.out.trans m')
 obtain ⟨y1, hy⟩ : ∃ q_, q_ = y := ⟨_, rfl⟩
 rw [← hy] at s'
 have Y1 := Lib.hid hy
 clear hc hf
 obtain ⟨hc, hf⟩ := s'.cp
 have S1 := Lib.hid s'
 clear s' m' hy
 go_wp2
 have Q := Lib.hid (S1.out.stF (Alu.FL (Alu.zf y.s.r.f) false false true) (Alu.FL_b _ _ _ _).1 (Alu.FL_b _ _ _ _).2)
 first | go_end0 | refine bodyPost_ret (results_none rfl _ _ _) rfl ?_
 refine ⟨rfl, v1, ?_, M1.out.trans Q.out.2⟩
 have q := Q.out.1
 have e := Y1.out.symm
 subst e
 exact Sys.mono (n' := n + 0) q (by omega)
set_option maxHeartbeats 2000000 in
theorem calc_22 (h0 : Sys procD ramC w P R M tb v y n) (hn : n < 960000) (x z s nn : Int) : Calls Tryz.prog 82 #[.pointer (some ⟨P, 0, none⟩), .agg #[.int .i64 22, .int .i64 x, .int .i64 z, .int .i64 s, .int .u16 nn]] w (PE procD ramC P R M tb v w (.tuple #[]) (setF (Alu.FL (Alu.zf y.s.r.f) false false (!Alu.cf y.s.r.f)) y) (n + 0)) := by
 have fb := h0.fb
 have hx := fl144 y.s.r.f fb.1 fb.2
 have S0 := Lib.hid (h0.below (own1 w (.cells #[.int .i64 22, .int .i64 x, .int .i64 z, .int .i64 s, .int .u16 nn] 44)))
 have M0 := Lib.hid (show PM P R M tb v w v (w.alloc (.cells #[.int .i64 22, .int .i64 x, .int .i64 z, .int .i64 s, .int .u16 nn] 44)) from PM.of (own1 w (.cells #[.int .i64 22, .int .i64 x, .int .i64 z, .int .i64 s, .int .u16 nn] 44)))
 have HO := Lib.hid (Has.new w #[.int .i64 22, .int .i64 x, .int .i64 z, .int .i64 s, .int .u16 nn] 44)
 have NO := Lib.hid (h0.new (Nat.le_refl w.heap.size))
 obtain ⟨hc, hf⟩ := S0.out.cp
 clear h0
 go_enter Tryz.func82, Tryz.ntmps82
 go_wp2_with fail
 generalize w.alloc (.cells #[.int .i64 22, .int .i64 x, .int .i64 z, .int .i64 s, .int .u16 nn] 44) = w0 at S0 M0 HO hc hf ⊢
 generalize w.heap.size = ob at HO NO ⊢
 have ho := HO.out.2.1
 with_reducible refine (kept_p S0.out (by omega) 144).mono ?_
 rintro e w1 ⟨rfl, v1, s', m'⟩
 have HO' := Lib.hid (m'.has HO.out NO.out)
 have NO' := Lib.hid (m'.far HO.out.1 NO.out)
 clear ho HO NO
 have HO := HO'
 have NO := NO'
 clear HO' NO'
 have ho := HO.out.2.1
 have M1 := Lib.hid (M0.out.trans m')
 obtain ⟨y1, hy⟩ : ∃ q_, q_ = y := ⟨_, rfl⟩
 rw [← hy] at s'
 have Y1 := Lib.hid hy
 clear hc hf
 obtain ⟨hc, hf⟩ := s'.cp
 have S1 := Lib.hid s'
 clear s' m' hy
 go_wp2
 have Q := Lib.hid (S1.out.stF (Alu.FL (Alu.zf y.s.r.f) false false (!Alu.cf y.s.r.f)) (Alu.FL_b _ _ _ _).1 (Alu.FL_b _ _ _ _).2)
 first | go_end0 | refine bodyPost_ret (results_none rfl _ _ _) rfl ?_
 refine ⟨rfl, v1, ?_, M1.out.trans Q.out.2⟩
 have q := Q.out.1
 have e := Y1.out.symm
 subst e
 exact Sys.mono (n' := n + 0) q (by omega)
end
end Go.Proofs.YtngdogldgcgnjaaGreat
