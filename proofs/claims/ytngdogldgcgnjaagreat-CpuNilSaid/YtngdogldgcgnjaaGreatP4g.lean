/-
  What branch does: for every world; the processor is there.
-/
import Derived.Test.YtngdogldgcgnjaaGreatP4a
namespace Go.Proofs.YtngdogldgcgnjaaGreat
open Go.ChangeShapes Go.WideShapes Go.ChangeAt Go.RowKit
open Reg
set_option linter.unusedVariables false
set_option maxRecDepth 100000
section
variable {w : World} {P R M tb n : Nat} {v : Value} {y : Sy}
theorem jr_w (pc nn : Int) : IntKind.u16.wrap (pc + IntKind.u16.wrap (IntKind.i8.wrap nn)) = jrV pc nn := by
 rw [IntKind.wrap_u16, IntKind.wrap_u16]
 unfold jrV Alu.signed
 have e : IntKind.i8.wrap nn = if 127 < nn % 256 then nn % 256 - 256 else nn % 256 := by
  simp only [IntKind.wrap, IntKind.bits, IntKind.signed]; simp; split <;> split <;> omega
 rw [e]
 omega
set_option maxHeartbeats 2000000 in
theorem br_23_f (h0 : Sys procD ramC w P R M tb v y n) (hn : n < 960000) (x z s nn : Int) : Calls Tryz.prog 73 #[.pointer (some ⟨P, 0, none⟩), .agg #[.int .i64 23, .int .i64 x, .int .i64 z, .int .i64 s, .int .u16 nn], .bool false] w (PE procD ramC P R M tb v w (.tuple #[]) (y) (n + 0)) := by
 have hm := mI ⟨R, 0, none⟩
 have S0 := Lib.hid (h0.below (own1 w (.cells #[.int .i64 23, .int .i64 x, .int .i64 z, .int .i64 s, .int .u16 nn] 44)))
 have M0 := Lib.hid (show PM P R M tb v w v (w.alloc (.cells #[.int .i64 23, .int .i64 x, .int .i64 z, .int .i64 s, .int .u16 nn] 44)) from PM.of (own1 w (.cells #[.int .i64 23, .int .i64 x, .int .i64 z, .int .i64 s, .int .u16 nn] 44)))
 have HO := Lib.hid (Has.new w #[.int .i64 23, .int .i64 x, .int .i64 z, .int .i64 s, .int .u16 nn] 44)
 have NO := Lib.hid (h0.new (Nat.le_refl w.heap.size))
 obtain ⟨hc, hf⟩ := S0.out.cp
 clear h0
 go_enter Tryz.func73, Tryz.ntmps73
 go_wp2
 first | go_end0 | refine bodyPost_ret (results_none rfl _ _ _) rfl ?_
 exact ⟨rfl, v, S0.out, M0.out⟩
set_option maxHeartbeats 2000000 in
theorem br_24_f (h0 : Sys procD ramC w P R M tb v y n) (hn : n < 960000) (x z s nn : Int) : Calls Tryz.prog 73 #[.pointer (some ⟨P, 0, none⟩), .agg #[.int .i64 24, .int .i64 x, .int .i64 z, .int .i64 s, .int .u16 nn], .bool false] w (PE procD ramC P R M tb v w (.tuple #[]) (y) (n + 0)) := by
 have hm := mI ⟨R, 0, none⟩
 have S0 := Lib.hid (h0.below (own1 w (.cells #[.int .i64 24, .int .i64 x, .int .i64 z, .int .i64 s, .int .u16 nn] 44)))
 have M0 := Lib.hid (show PM P R M tb v w v (w.alloc (.cells #[.int .i64 24, .int .i64 x, .int .i64 z, .int .i64 s, .int .u16 nn] 44)) from PM.of (own1 w (.cells #[.int .i64 24, .int .i64 x, .int .i64 z, .int .i64 s, .int .u16 nn] 44)))
 have HO := Lib.hid (Has.new w #[.int .i64 24, .int .i64 x, .int .i64 z, .int .i64 s, .int .u16 nn] 44)
 have NO := Lib.hid (h0.new (Nat.le_refl w.heap.size))
 obtain ⟨hc, hf⟩ := S0.out.cp
 clear h0
 go_enter Tryz.func73, Tryz.ntmps73
 go_wp2
 first | go_end0 | refine bodyPost_ret (results_none rfl _ _ _) rfl ?_
 exact ⟨rfl, v, S0.out, M0.out⟩
set_option maxHeartbeats 2000000 in
theorem br_25_f (h0 : Sys procD ramC w P R M tb v y n) (hn : n < 960000) (x z s nn : Int) : Calls Tryz.prog 73 #[.pointer (some ⟨P, 0, none⟩), .agg #[.int .i64 25, .int .i64 x, .int .i64 z, .int .i64 s, .int .u16 nn], .bool false] w (PE procD ramC P R M tb v w (.tuple #[]) (y) (n + 0)) := by
 have hm := mI ⟨R, 0, none⟩
 have S0 := Lib.hid (h0.below (own1 w (.cells #[.int .i64 25, .int .i64 x, .int .i64 z, .int .i64 s, .int .u16 nn] 44)))
 have M0 := Lib.hid (show PM P R M tb v w v (w.alloc (.cells #[.int .i64 25, .int .i64 x, .int .i64 z, .int .i64 s, .int .u16 nn] 44)) from PM.of (own1 w (.cells #[.int .i64 25, .int .i64 x, .int .i64 z, .int .i64 s, .int .u16 nn] 44)))
 have HO := Lib.hid (Has.new w #[.int .i64 25, .int .i64 x, .int .i64 z, .int .i64 s, .int .u16 nn] 44)
 have NO := Lib.hid (h0.new (Nat.le_refl w.heap.size))
 obtain ⟨hc, hf⟩ := S0.out.cp
 clear h0
 go_enter Tryz.func73, Tryz.ntmps73
 go_wp2
 first | go_end0 | refine bodyPost_ret (results_none rfl _ _ _) rfl ?_
 exact ⟨rfl, v, S0.out, M0.out⟩
set_option maxHeartbeats 2000000 in
theorem br_26_f4 (h0 : Sys procD ramC w P R M tb v y n) (hn : n < 960000) (z s nn : Int) : Calls Tryz.prog 73 #[.pointer (some ⟨P, 0, none⟩), .agg #[.int .i64 26, .int .i64 4, .int .i64 z, .int .i64 s, .int .u16 nn], .bool false] w (PE procD ramC P R M tb v w (.tuple #[]) (y) (n + 0)) := by
 have hm := mI ⟨R, 0, none⟩
 have S0 := Lib.hid (h0.below (own1 w (.cells #[.int .i64 26, .int .i64 4, .int .i64 z, .int .i64 s, .int .u16 nn] 44)))
 have M0 := Lib.hid (show PM P R M tb v w v (w.alloc (.cells #[.int .i64 26, .int .i64 4, .int .i64 z, .int .i64 s, .int .u16 nn] 44)) from PM.of (own1 w (.cells #[.int .i64 26, .int .i64 4, .int .i64 z, .int .i64 s, .int .u16 nn] 44)))
 have HO := Lib.hid (Has.new w #[.int .i64 26, .int .i64 4, .int .i64 z, .int .i64 s, .int .u16 nn] 44)
 have NO := Lib.hid (h0.new (Nat.le_refl w.heap.size))
 obtain ⟨hc, hf⟩ := S0.out.cp
 clear h0
 go_enter Tryz.func73, Tryz.ntmps73
 go_wp2
 first | go_end0 | refine bodyPost_ret (results_none rfl _ _ _) rfl ?_
 exact ⟨rfl, v, S0.out, M0.out⟩
set_option maxHeartbeats 2000000 in
theorem br_23_t (h0 : Sys procD ramC w P R M tb v y n) (hn : n < 960000) (x z s nn : Int) : Calls Tryz.prog 73 #[.pointer (some ⟨P, 0, none⟩), .agg #[.int .i64 23, .int .i64 x, .int .i64 z, .int .i64 s, .int .u16 nn], .bool true] w (PE procD ramC P R M tb v w (.tuple #[]) (setPC (jrV y.s.r.pc nn) (idle y)) (n + 1)) := by
 have hm := mI ⟨R, 0, none⟩
 have S0 := Lib.hid (h0.below (own1 w (.cells #[.int .i64 23, .int .i64 x, .int .i64 z, .int .i64 s, .int .u16 nn] 44)))
 have M0 := Lib.hid (show PM P R M tb v w v (w.alloc (.cells #[.int .i64 23, .int .i64 x, .int .i64 z, .int .i64 s, .int .u16 nn] 44)) from PM.of (own1 w (.cells #[.int .i64 23, .int .i64 x, .int .i64 z, .int .i64 s, .int .u16 nn] 44)))
 have HO := Lib.hid (Has.new w #[.int .i64 23, .int .i64 x, .int .i64 z, .int .i64 s, .int .u16 nn] 44)
 have NO := Lib.hid (h0.new (Nat.le_refl w.heap.size))
 obtain ⟨hc, hf⟩ := S0.out.cp
 clear h0
 go_enter Tryz.func73, Tryz.ntmps73
 go_wp2_with fail
 generalize w.alloc (.cells #[.int .i64 23, .int .i64 x, .int .i64 z, .int .i64 s, .int .u16 nn] 44) = w0 at S0 M0 HO hc hf ⊢
 generalize w.heap.size = ob at HO NO ⊢
 have ho := HO.out.2.1
 with_reducible refine (idle_p S0.out (by omega)).mono ?_
 rintro e w1 ⟨rfl, v1, s', m'⟩
 have HO' := Lib.hid (m'.has HO.out NO.out)
 have NO' := Lib.hid (m'.far HO.out.1 NO.out)
 clear ho HO NO
 have HO := HO'
 have NO := NO'
 clear HO' NO'
 have ho := HO.out.2.1
 have M1 := Lib.hid (M0.out.trans m')
 obtain ⟨y1, hy⟩ : ∃ q_, q_ = idle y := ⟨_, rfl⟩
 rw [← hy] at s'
 have Y1 := Lib.hid hy
 clear hc hf
 obtain ⟨hc, hf⟩ := s'.cp
 have S1 := Lib.hid s'
 clear s' m' hy
 have hw := jr_w y1.s.r.pc nn
 go_wp2
 have S1' := Lib.hid S1.out.drew
 have M1' := Lib.hid (M1.out.trans (PM.drew P R M tb v1 w1))
 clear hc hf
 obtain ⟨hc, hf⟩ := S1'.out.cp
 have HO' := Lib.hid HO.out.drew
 clear ho HO
 have HO := HO'
 clear HO'
 have ho := HO.out.2.1
 go_still_tail 15, (by kernel_rfl)
 change wpList _ _ _ _ _ (World.drew w1)
 generalize World.drew w1 = u1 at hc hf S1' M1' HO ho ⊢
 clear S1 M1
 have S1 := S1'
 have M1 := M1'
 clear S1' M1'
 have jb : 0 ≤ jrV y1.s.r.pc nn ∧ jrV y1.s.r.pc nn < 65536 := by unfold jrV; omega
 go_wp2
 have Q := Lib.hid (S1.out.stPC (jrV y1.s.r.pc nn) jb.1 jb.2)
 go_end0
 refine ⟨rfl, v1, ?_, M1.out.trans Q.out.2⟩
 have q := Q.out.1
 have e := Y1.out.symm
 subst e
 exact Sys.mono (n' := n + 1) q (by omega)
set_option maxHeartbeats 2000000 in
theorem br_24_t (h0 : Sys procD ramC w P R M tb v y n) (hn : n < 960000) (x z s nn : Int) (n0 : 0 ≤ nn) (n1 : nn < 65536) : Calls Tryz.prog 73 #[.pointer (some ⟨P, 0, none⟩), .agg #[.int .i64 24, .int .i64 x, .int .i64 z, .int .i64 s, .int .u16 nn], .bool true] w (PE procD ramC P R M tb v w (.tuple #[]) (setPC nn (idle y)) (n + 1)) := by
 have hm := mI ⟨R, 0, none⟩
 have S0 := Lib.hid (h0.below (own1 w (.cells #[.int .i64 24, .int .i64 x, .int .i64 z, .int .i64 s, .int .u16 nn] 44)))
 have M0 := Lib.hid (show PM P R M tb v w v (w.alloc (.cells #[.int .i64 24, .int .i64 x, .int .i64 z, .int .i64 s, .int .u16 nn] 44)) from PM.of (own1 w (.cells #[.int .i64 24, .int .i64 x, .int .i64 z, .int .i64 s, .int .u16 nn] 44)))
 have HO := Lib.hid (Has.new w #[.int .i64 24, .int .i64 x, .int .i64 z, .int .i64 s, .int .u16 nn] 44)
 have NO := Lib.hid (h0.new (Nat.le_refl w.heap.size))
 obtain ⟨hc, hf⟩ := S0.out.cp
 clear h0
 go_enter Tryz.func73, Tryz.ntmps73
 go_wp2_with fail
 generalize w.alloc (.cells #[.int .i64 24, .int .i64 x, .int .i64 z, .int .i64 s, .int .u16 nn] 44) = w0 at S0 M0 HO hc hf ⊢
 generalize w.heap.size = ob at HO NO ⊢
 have ho := HO.out.2.1
 with_reducible refine (idle_p S0.out (by omega)).mono ?_
 rintro e w1 ⟨rfl, v1, s', m'⟩
 have HO' := Lib.hid (m'.has HO.out NO.out)
 have NO' := Lib.hid (m'.far HO.out.1 NO.out)
 clear ho HO NO
 have HO := HO'
 have NO := NO'
 clear HO' NO'
 have ho := HO.out.2.1
 have M1 := Lib.hid (M0.out.trans m')
 obtain ⟨y1, hy⟩ : ∃ q_, q_ = idle y := ⟨_, rfl⟩
 rw [← hy] at s'
 have Y1 := Lib.hid hy
 clear hc hf
 obtain ⟨hc, hf⟩ := s'.cp
 have S1 := Lib.hid s'
 clear s' m' hy
 go_wp2
 have Q := Lib.hid (S1.out.stPC nn n0 n1)
 go_end0
 refine ⟨rfl, v1, ?_, M1.out.trans Q.out.2⟩
 have q := Q.out.1
 have e := Y1.out.symm
 subst e
 exact Sys.mono (n' := n + 1) q (by omega)
set_option maxHeartbeats 2000000 in
theorem br_25_t (h0 : Sys procD ramC w P R M tb v y n) (hn : n < 960000) (x z s nn : Int) (n0 : 0 ≤ nn) (n1 : nn < 65536) : Calls Tryz.prog 73 #[.pointer (some ⟨P, 0, none⟩), .agg #[.int .i64 25, .int .i64 x, .int .i64 z, .int .i64 s, .int .u16 nn], .bool true] w (PE procD ramC P R M tb v w (.tuple #[]) (enterS nn y) (n + 3)) := by
 have S0 := Lib.hid (h0.below (own1 w (.cells #[.int .i64 25, .int .i64 x, .int .i64 z, .int .i64 s, .int .u16 nn] 44)))
 have M0 := Lib.hid (show PM P R M tb v w v (w.alloc (.cells #[.int .i64 25, .int .i64 x, .int .i64 z, .int .i64 s, .int .u16 nn] 44)) from PM.of (own1 w (.cells #[.int .i64 25, .int .i64 x, .int .i64 z, .int .i64 s, .int .u16 nn] 44)))
 have HO := Lib.hid (Has.new w #[.int .i64 25, .int .i64 x, .int .i64 z, .int .i64 s, .int .u16 nn] 44)
 have NO := Lib.hid (h0.new (Nat.le_refl w.heap.size))
 obtain ⟨hc, hf⟩ := S0.out.cp
 clear h0
 go_enter Tryz.func73, Tryz.ntmps73
 go_wp2_with fail
 generalize w.alloc (.cells #[.int .i64 25, .int .i64 x, .int .i64 z, .int .i64 s, .int .u16 nn] 44) = w0 at S0 M0 HO hc hf ⊢
 generalize w.heap.size = ob at HO NO ⊢
 have ho := HO.out.2.1
 with_reducible refine (enter_p S0.out (by omega) nn n0 n1).mono ?_
 rintro e w1 ⟨rfl, v1, s', m'⟩
 have HO' := Lib.hid (m'.has HO.out NO.out)
 have NO' := Lib.hid (m'.far HO.out.1 NO.out)
 clear ho HO NO
 have HO := HO'
 have NO := NO'
 clear HO' NO'
 have ho := HO.out.2.1
 have M1 := Lib.hid (M0.out.trans m')
 obtain ⟨y1, hy⟩ : ∃ q_, q_ = enterS nn y := ⟨_, rfl⟩
 rw [← hy] at s'
 have Y1 := Lib.hid hy
 clear hc hf
 obtain ⟨hc, hf⟩ := s'.cp
 have S1 := Lib.hid s'
 clear s' m' hy
 go_wp2
 go_end0
 refine ⟨rfl, v1, ?_, M1.out⟩
 have q := S1.out
 have e := Y1.out.symm
 subst e
 exact Sys.mono (n' := n + 3) q (by omega)
set_option maxHeartbeats 2000000 in
theorem br_26_t4 (h0 : Sys procD ramC w P R M tb v y n) (hn : n < 960000) (z s nn : Int) : Calls Tryz.prog 73 #[.pointer (some ⟨P, 0, none⟩), .agg #[.int .i64 26, .int .i64 4, .int .i64 z, .int .i64 s, .int .u16 nn], .bool true] w (PE procD ramC P R M tb v w (.tuple #[]) (leaveS y) (n + 3)) := by
 have S0 := Lib.hid (h0.below (own1 w (.cells #[.int .i64 26, .int .i64 4, .int .i64 z, .int .i64 s, .int .u16 nn] 44)))
 have M0 := Lib.hid (show PM P R M tb v w v (w.alloc (.cells #[.int .i64 26, .int .i64 4, .int .i64 z, .int .i64 s, .int .u16 nn] 44)) from PM.of (own1 w (.cells #[.int .i64 26, .int .i64 4, .int .i64 z, .int .i64 s, .int .u16 nn] 44)))
 have HO := Lib.hid (Has.new w #[.int .i64 26, .int .i64 4, .int .i64 z, .int .i64 s, .int .u16 nn] 44)
 have NO := Lib.hid (h0.new (Nat.le_refl w.heap.size))
 obtain ⟨hc, hf⟩ := S0.out.cp
 clear h0
 go_enter Tryz.func73, Tryz.ntmps73
 go_wp2_with fail
 generalize w.alloc (.cells #[.int .i64 26, .int .i64 4, .int .i64 z, .int .i64 s, .int .u16 nn] 44) = w0 at S0 M0 HO hc hf ⊢
 generalize w.heap.size = ob at HO NO ⊢
 have ho := HO.out.2.1
 with_reducible refine (leave_p S0.out (by omega)).mono ?_
 rintro e w1 ⟨rfl, v1, s', m'⟩
 have HO' := Lib.hid (m'.has HO.out NO.out)
 have NO' := Lib.hid (m'.far HO.out.1 NO.out)
 clear ho HO NO
 have HO := HO'
 have NO := NO'
 clear HO' NO'
 have ho := HO.out.2.1
 have M1 := Lib.hid (M0.out.trans m')
 obtain ⟨y1, hy⟩ : ∃ q_, q_ = leaveS y := ⟨_, rfl⟩
 rw [← hy] at s'
 have Y1 := Lib.hid hy
 clear hc hf
 obtain ⟨hc, hf⟩ := s'.cp
 have S1 := Lib.hid s'
 clear s' m' hy
 go_wp2
 go_end0
 refine ⟨rfl, v1, ?_, M1.out⟩
 have q := S1.out
 have e := Y1.out.symm
 subst e
 exact Sys.mono (n' := n + 3) q (by omega)
set_option maxHeartbeats 2000000 in
theorem br_26_t (h0 : Sys procD ramC w P R M tb v y n) (hn : n < 960000) (x z s nn : Int) (hx : x ≠ 4) : Calls Tryz.prog 73 #[.pointer (some ⟨P, 0, none⟩), .agg #[.int .i64 26, .int .i64 x, .int .i64 z, .int .i64 s, .int .u16 nn], .bool true] w (PE procD ramC P R M tb v w (.tuple #[]) (leaveS (idle y)) (n + 4)) := by
 have hm := mI ⟨R, 0, none⟩
 have hx' : (x != 4) = true := by simpa using hx
 have S0 := Lib.hid (h0.below (own1 w (.cells #[.int .i64 26, .int .i64 x, .int .i64 z, .int .i64 s, .int .u16 nn] 44)))
 have M0 := Lib.hid (show PM P R M tb v w v (w.alloc (.cells #[.int .i64 26, .int .i64 x, .int .i64 z, .int .i64 s, .int .u16 nn] 44)) from PM.of (own1 w (.cells #[.int .i64 26, .int .i64 x, .int .i64 z, .int .i64 s, .int .u16 nn] 44)))
 have HO := Lib.hid (Has.new w #[.int .i64 26, .int .i64 x, .int .i64 z, .int .i64 s, .int .u16 nn] 44)
 have NO := Lib.hid (h0.new (Nat.le_refl w.heap.size))
 obtain ⟨hc, hf⟩ := S0.out.cp
 clear h0
 go_enter Tryz.func73, Tryz.ntmps73
 go_wp2_with fail
 generalize w.alloc (.cells #[.int .i64 26, .int .i64 x, .int .i64 z, .int .i64 s, .int .u16 nn] 44) = w0 at S0 M0 HO hc hf ⊢
 generalize w.heap.size = ob at HO NO ⊢
 have ho := HO.out.2.1
 with_reducible refine (idle_p S0.out (by omega)).mono ?_
 rintro e w1 ⟨rfl, v1, s', m'⟩
 have HO' := Lib.hid (m'.has HO.out NO.out)
 have NO' := Lib.hid (m'.far HO.out.1 NO.out)
 clear ho HO NO
 have HO := HO'
 have NO := NO'
 clear HO' NO'
 have ho := HO.out.2.1
 have M1 := Lib.hid (M0.out.trans m')
 obtain ⟨y1, hy⟩ : ∃ q_, q_ = idle y := ⟨_, rfl⟩
 rw [← hy] at s'
 have Y1 := Lib.hid hy
 clear hc hf
 obtain ⟨hc, hf⟩ := s'.cp
 have S1 := Lib.hid s'
 clear s' m' hy
 go_wp2_with fail
 with_reducible refine (leave_p S1.out (by omega)).mono ?_
 rintro e w2 ⟨rfl, v2, s', m'⟩
 have HO' := Lib.hid (m'.has HO.out NO.out)
 have NO' := Lib.hid (m'.far HO.out.1 NO.out)
 clear ho HO NO
 have HO := HO'
 have NO := NO'
 clear HO' NO'
 have ho := HO.out.2.1
 have M2 := Lib.hid (M1.out.trans m')
 obtain ⟨y2, hy⟩ : ∃ q_, q_ = leaveS y1 := ⟨_, rfl⟩
 rw [← hy] at s'
 have Y2 := Lib.hid hy
 clear hc hf
 obtain ⟨hc, hf⟩ := s'.cp
 have S2 := Lib.hid s'
 clear s' m' hy
 go_wp2
 go_end0
 refine ⟨rfl, v2, ?_, M2.out⟩
 have q := S2.out
 have e := Y2.out.symm
 subst e
 have e := Y1.out.symm
 subst e
 exact Sys.mono (n' := n + 4) q (by omega)
set_option maxHeartbeats 2000000 in
theorem br_26_f (h0 : Sys procD ramC w P R M tb v y n) (hn : n < 960000) (x z s nn : Int) (hx : x ≠ 4) : Calls Tryz.prog 73 #[.pointer (some ⟨P, 0, none⟩), .agg #[.int .i64 26, .int .i64 x, .int .i64 z, .int .i64 s, .int .u16 nn], .bool false] w (PE procD ramC P R M tb v w (.tuple #[]) (idle y) (n + 1)) := by
 have hm := mI ⟨R, 0, none⟩
 have hx' : (x != 4) = true := by simpa using hx
 have S0 := Lib.hid (h0.below (own1 w (.cells #[.int .i64 26, .int .i64 x, .int .i64 z, .int .i64 s, .int .u16 nn] 44)))
 have M0 := Lib.hid (show PM P R M tb v w v (w.alloc (.cells #[.int .i64 26, .int .i64 x, .int .i64 z, .int .i64 s, .int .u16 nn] 44)) from PM.of (own1 w (.cells #[.int .i64 26, .int .i64 x, .int .i64 z, .int .i64 s, .int .u16 nn] 44)))
 have HO := Lib.hid (Has.new w #[.int .i64 26, .int .i64 x, .int .i64 z, .int .i64 s, .int .u16 nn] 44)
 have NO := Lib.hid (h0.new (Nat.le_refl w.heap.size))
 obtain ⟨hc, hf⟩ := S0.out.cp
 clear h0
 go_enter Tryz.func73, Tryz.ntmps73
 go_wp2_with fail
 generalize w.alloc (.cells #[.int .i64 26, .int .i64 x, .int .i64 z, .int .i64 s, .int .u16 nn] 44) = w0 at S0 M0 HO hc hf ⊢
 generalize w.heap.size = ob at HO NO ⊢
 have ho := HO.out.2.1
 with_reducible refine (idle_p S0.out (by omega)).mono ?_
 rintro e w1 ⟨rfl, v1, s', m'⟩
 have HO' := Lib.hid (m'.has HO.out NO.out)
 have NO' := Lib.hid (m'.far HO.out.1 NO.out)
 clear ho HO NO
 have HO := HO'
 have NO := NO'
 clear HO' NO'
 have ho := HO.out.2.1
 have M1 := Lib.hid (M0.out.trans m')
 obtain ⟨y1, hy⟩ : ∃ q_, q_ = idle y := ⟨_, rfl⟩
 rw [← hy] at s'
 have Y1 := Lib.hid hy
 clear hc hf
 obtain ⟨hc, hf⟩ := s'.cp
 have S1 := Lib.hid s'
 clear s' m' hy
 go_wp2
 first | go_end0 | refine bodyPost_ret (results_none rfl _ _ _) rfl ?_
 refine ⟨rfl, v1, ?_, M1.out⟩
 have q := S1.out
 have e := Y1.out.symm
 subst e
 exact Sys.mono (n' := n + 1) q (by omega)
end
end Go.Proofs.YtngdogldgcgnjaaGreat
