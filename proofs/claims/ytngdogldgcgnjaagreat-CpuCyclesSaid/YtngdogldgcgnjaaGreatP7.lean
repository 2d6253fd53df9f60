/-
  What perform does, where it copies A: for every world; the processor is there.
-/
import Derived.Test.YtngdogldgcgnjaaGreatP4g
import Derived.Test.YtngdogldgcgnjaaGreatP4f
namespace Go.Proofs.YtngdogldgcgnjaaGreat
open Go.ChangeShapes Go.WideShapes Go.ChangeAt Go.RowKit
open Reg
set_option linter.unusedVariables false
set_option maxRecDepth 100000
section
variable {w : World} {P R M tb n : Nat} {v : Value} {y : Sy}
theorem thruS_a (x : Int) (y : Sy) : (thruS x y).s.r.a = y.s.r.a := by
  unfold thruS; repeat (first | rfl | split)
theorem thruS_m (x : Int) (y : Sy) : (thruS x y).m = y.m := by
  unfold thruS; repeat (first | rfl | split)
set_option maxHeartbeats 2000000 in
theorem perf_27 (h0 : Sys procD ramC w P R M tb v y n) (hn : n < 950000) (x z s nn : Int) (t : Bool) : Calls Tryz.prog 55 #[.pointer (some ⟨P, 0, none⟩), .agg #[.int .i64 27, .int .i64 x, .int .i64 z, .int .i64 s, .int .u16 nn], .bool t] w (PE procD ramC P R M tb v w (.tuple #[]) (setIme true (leaveS y)) (n + 3)) := by
  have S0 := Lib.hid (h0.below (own1 w (.cells #[.int .i64 27, .int .i64 x, .int .i64 z, .int .i64 s, .int .u16 nn] 44)))
  have M0 := Lib.hid (show PM P R M tb v w v (w.alloc (.cells #[.int .i64 27, .int .i64 x, .int .i64 z, .int .i64 s, .int .u16 nn] 44)) from PM.of (own1 w (.cells #[.int .i64 27, .int .i64 x, .int .i64 z, .int .i64 s, .int .u16 nn] 44)))
  have HO := Lib.hid (Has.new w #[.int .i64 27, .int .i64 x, .int .i64 z, .int .i64 s, .int .u16 nn] 44)
  have NO := Lib.hid (h0.new (Nat.le_refl w.heap.size))
  obtain ⟨hc, hf⟩ := S0.out.cp
  clear h0
  go_enter Tryz.func55, Tryz.ntmps55
  go_wp2_with fail
  generalize w.alloc (.cells #[.int .i64 27, .int .i64 x, .int .i64 z, .int .i64 s, .int .u16 nn] 44) = w0 at S0 M0 HO hc hf ⊢
  generalize w.heap.size = ob at HO NO ⊢
  have ho := HO.out.2.1
  with_reducible refine (leave_p S0.out (by omega)).mono ?_
  rintro e w1 ⟨rfl, v1, s', m'⟩
  have HO' := Lib.hid (m'.has HO.out NO.out)
  have NO' := Lib.hid (m'.far HO.out.1 NO.out)
  clear ho HO NO
  have HO := HO'
  have NO := NO'
  clear HO' NO'
  have ho := HO.out.2.1
  have M1 := Lib.hid (M0.out.trans m')
  obtain ⟨y1, hy⟩ : ∃ q_, q_ = leaveS y := ⟨_, rfl⟩
  rw [← hy] at s'
  have Y1 := Lib.hid hy
  clear hc hf
  obtain ⟨hc, hf⟩ := s'.cp
  have S1 := Lib.hid s'
  clear s' m' hy
  go_wp2
  have Q := Lib.hid (S1.out.stIme true)
  first | go_end0 | refine bodyPost_ret (results_none rfl _ _ _) rfl ?_
  refine ⟨rfl, v1, ?_, M1.out.trans Q.out.2⟩
  have q := Q.out.1
  have e := Y1.out.symm
  subst e
  exact Sys.mono (n' := n + 3) q (by omega)
set_option maxHeartbeats 2000000 in
theorem perf_28 (h0 : Sys procD ramC w P R M tb v y n) (hn : n < 950000) (x z s nn : Int) (n0 : 0 ≤ nn) (n1 : nn < 65536) (t : Bool) : Calls Tryz.prog 55 #[.pointer (some ⟨P, 0, none⟩), .agg #[.int .i64 28, .int .i64 x, .int .i64 z, .int .i64 s, .int .u16 nn], .bool t] w (PE procD ramC P R M tb v w (.tuple #[]) (enterS nn y) (n + 3)) := by
  have S0 := Lib.hid (h0.below (own1 w (.cells #[.int .i64 28, .int .i64 x, .int .i64 z, .int .i64 s, .int .u16 nn] 44)))
  have M0 := Lib.hid (show PM P R M tb v w v (w.alloc (.cells #[.int .i64 28, .int .i64 x, .int .i64 z, .int .i64 s, .int .u16 nn] 44)) from PM.of (own1 w (.cells #[.int .i64 28, .int .i64 x, .int .i64 z, .int .i64 s, .int .u16 nn] 44)))
  have HO := Lib.hid (Has.new w #[.int .i64 28, .int .i64 x, .int .i64 z, .int .i64 s, .int .u16 nn] 44)
  have NO := Lib.hid (h0.new (Nat.le_refl w.heap.size))
  obtain ⟨hc, hf⟩ := S0.out.cp
  clear h0
  go_enter Tryz.func55, Tryz.ntmps55
  go_wp2_with fail
  generalize w.alloc (.cells #[.int .i64 28, .int .i64 x, .int .i64 z, .int .i64 s, .int .u16 nn] 44) = w0 at S0 M0 HO hc hf ⊢
  generalize w.heap.size = ob at HO NO ⊢
  have ho := HO.out.2.1
  with_reducible refine (enter_p S0.out (by omega) nn n0 n1).mono ?_
  rintro e w1 ⟨rfl, v1, s', m'⟩
  have HO' := Lib.hid (m'.has HO.out NO.out)
  have NO' := Lib.hid (m'.far HO.out.1 NO.out)
  clear ho HO NO
  have HO := HO'
  have NO := NO'
  clear HO' NO'
  have ho := HO.out.2.1
  have M1 := Lib.hid (M0.out.trans m')
  obtain ⟨y1, hy⟩ : ∃ q_, q_ = enterS nn y := ⟨_, rfl⟩
  rw [← hy] at s'
  have Y1 := Lib.hid hy
  clear hc hf
  obtain ⟨hc, hf⟩ := s'.cp
  have S1 := Lib.hid s'
  clear s' m' hy
  go_wp2
  first | go_end0 | refine bodyPost_ret (results_none rfl _ _ _) rfl ?_
  refine ⟨rfl, v1, ?_, M1.out⟩
  have q := S1.out
  have e := Y1.out.symm
  subst e
  exact Sys.mono (n' := n + 3) q (by omega)
set_option maxHeartbeats 2000000 in
theorem perf_29 (h0 : Sys procD ramC w P R M tb v y n) (hn : n < 950000) (x z s nn : Int) (t : Bool) : Calls Tryz.prog 55 #[.pointer (some ⟨P, 0, none⟩), .agg #[.int .i64 29, .int .i64 x, .int .i64 z, .int .i64 s, .int .u16 nn], .bool t] w (PE procD ramC P R M tb v w (.tuple #[]) (setPC (hlV y) y) (n + 0)) := by
  have S0 := Lib.hid (h0.below (own1 w (.cells #[.int .i64 29, .int .i64 x, .int .i64 z, .int .i64 s, .int .u16 nn] 44)))
  have M0 := Lib.hid (show PM P R M tb v w v (w.alloc (.cells #[.int .i64 29, .int .i64 x, .int .i64 z, .int .i64 s, .int .u16 nn] 44)) from PM.of (own1 w (.cells #[.int .i64 29, .int .i64 x, .int .i64 z, .int .i64 s, .int .u16 nn] 44)))
  have HO := Lib.hid (Has.new w #[.int .i64 29, .int .i64 x, .int .i64 z, .int .i64 s, .int .u16 nn] 44)
  have NO := Lib.hid (h0.new (Nat.le_refl w.heap.size))
  obtain ⟨hc, hf⟩ := S0.out.cp
  clear h0
  go_enter Tryz.func55, Tryz.ntmps55
  go_wp2_with fail
  generalize w.alloc (.cells #[.int .i64 29, .int .i64 x, .int .i64 z, .int .i64 s, .int .u16 nn] 44) = w0 at S0 M0 HO hc hf ⊢
  generalize w.heap.size = ob at HO NO ⊢
  have ho := HO.out.2.1
  with_reducible refine (pair_p S0.out (by omega) 2).mono ?_
  rintro e w1 ⟨rfl, v1, s', m'⟩
  have HO' := Lib.hid (m'.has HO.out NO.out)
  have NO' := Lib.hid (m'.far HO.out.1 NO.out)
  clear ho HO NO
  have HO := HO'
  have NO := NO'
  clear HO' NO'
  have ho := HO.out.2.1
  have M1 := Lib.hid (M0.out.trans m')
  obtain ⟨y1, hy⟩ : ∃ q_, q_ = y := ⟨_, rfl⟩
  rw [← hy] at s'
  have Y1 := Lib.hid hy
  clear hc hf
  obtain ⟨hc, hf⟩ := s'.cp
  have S1 := Lib.hid s'
  clear s' m' hy
  go_wp2
  have Q := Lib.hid (S1.out.stPC (pairV y.s.r 2) (pairV_b S0.out.ok 2).1 (pairV_b S0.out.ok 2).2)
  first | go_end0 | refine bodyPost_ret (results_none rfl _ _ _) rfl ?_
  refine ⟨rfl, v1, ?_, M1.out.trans Q.out.2⟩
  have q := Q.out.1
  have e := Y1.out.symm
  subst e
  exact Sys.mono (n' := n + 0) q (by omega)
set_option maxHeartbeats 2000000 in
theorem perf_30 (h0 : Sys procD ramC w P R M tb v y n) (hn : n < 950000) (x z s nn : Int) (t : Bool) : Calls Tryz.prog 55 #[.pointer (some ⟨P, 0, none⟩), .agg #[.int .i64 30, .int .i64 x, .int .i64 z, .int .i64 s, .int .u16 nn], .bool t] w (PE procD ramC P R M tb v w (.tuple #[]) (pushS (pairV y.s.r x) y) (n + 3)) := by
  have S0 := Lib.hid (h0.below (own1 w (.cells #[.int .i64 30, .int .i64 x, .int .i64 z, .int .i64 s, .int .u16 nn] 44)))
  have M0 := Lib.hid (show PM P R M tb v w v (w.alloc (.cells #[.int .i64 30, .int .i64 x, .int .i64 z, .int .i64 s, .int .u16 nn] 44)) from PM.of (own1 w (.cells #[.int .i64 30, .int .i64 x, .int .i64 z, .int .i64 s, .int .u16 nn] 44)))
  have HO := Lib.hid (Has.new w #[.int .i64 30, .int .i64 x, .int .i64 z, .int .i64 s, .int .u16 nn] 44)
  have NO := Lib.hid (h0.new (Nat.le_refl w.heap.size))
  obtain ⟨hc, hf⟩ := S0.out.cp
  clear h0
  go_enter Tryz.func55, Tryz.ntmps55
  go_wp2_with fail
  generalize w.alloc (.cells #[.int .i64 30, .int .i64 x, .int .i64 z, .int .i64 s, .int .u16 nn] 44) = w0 at S0 M0 HO hc hf ⊢
  generalize w.heap.size = ob at HO NO ⊢
  have ho := HO.out.2.1
  with_reducible refine (pair_p S0.out (by omega) x).mono ?_
  rintro e w1 ⟨rfl, v1, s', m'⟩
  have HO' := Lib.hid (m'.has HO.out NO.out)
  have NO' := Lib.hid (m'.far HO.out.1 NO.out)
  clear ho HO NO
  have HO := HO'
  have NO := NO'
  clear HO' NO'
  have ho := HO.out.2.1
  have M1 := Lib.hid (M0.out.trans m')
  obtain ⟨y1, hy⟩ : ∃ q_, q_ = y := ⟨_, rfl⟩
  rw [← hy] at s'
  have Y1 := Lib.hid hy
  clear hc hf
  obtain ⟨hc, hf⟩ := s'.cp
  have S1 := Lib.hid s'
  clear s' m' hy
  go_wp2_with fail
  with_reducible refine (push_p S1.out (by omega) (pairV y.s.r x) (pairV_b S0.out.ok x).1 (pairV_b S0.out.ok x).2).mono ?_
  rintro e w2 ⟨rfl, v2, s', m'⟩
  have HO' := Lib.hid (m'.has HO.out NO.out)
  have NO' := Lib.hid (m'.far HO.out.1 NO.out)
  clear ho HO NO
  have HO := HO'
  have NO := NO'
  clear HO' NO'
  have ho := HO.out.2.1
  have M2 := Lib.hid (M1.out.trans m')
  obtain ⟨y2, hy⟩ : ∃ q_, q_ = pushS (pairV y.s.r x) y1 := ⟨_, rfl⟩
  rw [← hy] at s'
  have Y2 := Lib.hid hy
  clear hc hf
  obtain ⟨hc, hf⟩ := s'.cp
  have S2 := Lib.hid s'
  clear s' m' hy
  go_wp2
  first | go_end0 | refine bodyPost_ret (results_none rfl _ _ _) rfl ?_
  refine ⟨rfl, v2, ?_, M2.out⟩
  have q := S2.out
  have e := Y2.out.symm
  subst e
  have e := Y1.out.symm
  subst e
  exact Sys.mono (n' := n + 3) q (by omega)
set_option maxHeartbeats 2000000 in
theorem perf_31 (h0 : Sys procD ramC w P R M tb v y n) (hn : n < 950000) (x z s nn : Int) (t : Bool) : Calls Tryz.prog 55 #[.pointer (some ⟨P, 0, none⟩), .agg #[.int .i64 31, .int .i64 x, .int .i64 z, .int .i64 s, .int .u16 nn], .bool t] w (PE procD ramC P R M tb v w (.tuple #[]) (pairS x (popV y) (popS y)) (n + 2)) := by
  have S0 := Lib.hid (h0.below (own1 w (.cells #[.int .i64 31, .int .i64 x, .int .i64 z, .int .i64 s, .int .u16 nn] 44)))
  have M0 := Lib.hid (show PM P R M tb v w v (w.alloc (.cells #[.int .i64 31, .int .i64 x, .int .i64 z, .int .i64 s, .int .u16 nn] 44)) from PM.of (own1 w (.cells #[.int .i64 31, .int .i64 x, .int .i64 z, .int .i64 s, .int .u16 nn] 44)))
  have HO := Lib.hid (Has.new w #[.int .i64 31, .int .i64 x, .int .i64 z, .int .i64 s, .int .u16 nn] 44)
  have NO := Lib.hid (h0.new (Nat.le_refl w.heap.size))
  obtain ⟨hc, hf⟩ := S0.out.cp
  clear h0
  go_enter Tryz.func55, Tryz.ntmps55
  go_wp2
  generalize w.alloc (.cells #[.int .i64 31, .int .i64 x, .int .i64 z, .int .i64 s, .int .u16 nn] 44) = w0 at S0 M0 HO hc hf ⊢
  generalize w.heap.size = ob at HO NO ⊢
  have ho := HO.out.2.1
  have S0' := Lib.hid S0.out.drew
  have M0' := Lib.hid (M0.out.trans (PM.drew P R M tb v w0))
  have HO' := Lib.hid HO.out.drew
  clear ho HO
  have HO := HO'
  clear HO'
  clear hc hf
  refine wp_region_held_drew (S := (fun w' => (∀ j, w'.cell? ⟨ob, j, none⟩ = #[Value.int .i64 31, .int .i64 x, .int .i64 z, .int .i64 s, .int .u16 nn][j]?) ∧ True)) (by kernel_rfl) ⟨HO.out.2.1, trivial⟩ (fun hHeld => ?_)
  generalize World.drew w0 = u0 at hHeld S0' M0' HO ⊢
  clear S0 M0
  have S0 := S0'
  have M0 := M0'
  clear S0' M0'
  refine wpAnyH_take (i := 0) (oi := { dst := some 93, op := Go.Op.move (Go.Operand.tmp 0), type := 94, pos := "perform.go:41", after := #[], guard := none }) (v := ?v1) rfl (by kernel_rfl) (by kernel_rfl) (by kernel_rfl) (fun _ _ _ h => h) (Or.inl ⟨by rfl, ?y1⟩) (by assumption) ?z1
  case y1 => (intro w hSw; (try dsimp only at hSw); go_simp) <;> with_reducible rfl
  try simp only [Act.put, List.setIfInBounds_toArray, List.set_cons_zero, List.set_cons_succ]
  refine wpAnyH_take (i := 1) (oi := { dst := some 94, op := Go.Op.fieldAddr 44 (Go.Operand.tmp 4) 1, type := 0, pos := "perform.go:41", after := #[], guard := none }) (v := ?v2) rfl (by kernel_rfl) (by kernel_rfl) (by kernel_rfl) (fun _ _ _ h => h) (Or.inl ⟨by rfl, ?y2⟩) (by assumption) ?z2
  case y2 => (intro w hSw; (try dsimp only at hSw); go_simp) <;> with_reducible rfl
  try simp only [Act.put, List.setIfInBounds_toArray, List.set_cons_zero, List.set_cons_succ]
  refine wpAnyH_take (i := 2) (oi := { dst := some 95, op := Go.Op.load 3 (Go.Operand.tmp 94), type := 3, pos := "perform.go:41", after := #[{ on := 1, ground := Go.Ground.data }], guard := none }) (v := ?v3) rfl (by kernel_rfl) (by kernel_rfl) (by kernel_rfl) (fun _ _ _ h => h) (Or.inl ⟨by rfl, ?y3⟩) (by assumption) ?z3
  case y3 => (intro w hSw; (try dsimp only at hSw); go_simp) <;> with_reducible rfl
  try simp only [Act.put, List.setIfInBounds_toArray, List.set_cons_zero, List.set_cons_succ]
  refine wpAnyH_take (i := 3) (oi := { dst := some 96, op := Go.Op.move (Go.Operand.tmp 0), type := 94, pos := "perform.go:41", after := #[], guard := none }) (v := ?v4) rfl (by kernel_rfl) (by kernel_rfl) (by kernel_rfl) (fun _ _ _ h => h) (Or.inl ⟨by rfl, ?y4⟩) (by assumption) ?z4
  case y4 => (intro w hSw; (try dsimp only at hSw); go_simp) <;> with_reducible rfl
  try simp only [Act.put, List.setIfInBounds_toArray, List.set_cons_zero, List.set_cons_succ]
  refine wpAnyH_ready (rs := [4]) (by kernel_rfl) (by simp) ?_
  refine (AllReadyH.cons (o := { dst := some 97, op := Go.Op.call { callee := Go.Callee.value (Go.Operand.func 79), args := #[Go.Operand.tmp 96], argTypes := #[94] }, type := 22, pos := "perform.go:41", after := #[{ on := 3, ground := Go.Ground.data }], guard := none }) rfl (fun K hK => ?_) AllReadyH.nil)
  · skip
    go_simp
    go_wp2_with (go_at_call 79; (with_reducible refine (pop_p S0.out (by omega)).mono ?_); rintro e w1 ⟨rfl, v1, s', m'⟩)
    have HO' := Lib.hid (m'.has HO.out NO.out)
    have NO' := Lib.hid (m'.far HO.out.1 NO.out)
    clear HO NO
    have HO := HO'
    have NO := NO'
    clear HO' NO'
    refine hK.out _ _ ?s5 (fun hNew => ?r5)
    case s5 => exact ⟨HO.out.2.1, trivial⟩
    clear hK K hHeld
    have hHeld := hNew
    clear hNew
    have M1 := Lib.hid (M0.out.trans m')
    obtain ⟨y1, hy⟩ : ∃ q_, q_ = popS y := ⟨_, rfl⟩
    rw [← hy] at s'
    have Y1 := Lib.hid hy
    have S1 := Lib.hid s'
    clear s' m' hy
    refine wpAnyH_ready (rs := [5]) (by kernel_rfl) (by simp) ?_
    refine (AllReadyH.cons (o := { dst := some 98, op := Go.Op.call { callee := Go.Callee.value (Go.Operand.func 78), args := #[Go.Operand.tmp 93, Go.Operand.tmp 95, Go.Operand.tmp 97], argTypes := #[94, 3, 22] }, type := 0, pos := "perform.go:41", after := #[{ on := 0, ground := Go.Ground.data }, { on := 2, ground := Go.Ground.data }, { on := 4, ground := Go.Ground.data }, { on := 4, ground := Go.Ground.chain }], guard := none }) rfl (fun K hK => ?_) AllReadyH.nil)
    · skip
      go_simp
      go_wp2_with (go_at_call 78; (with_reducible refine (setPair_p S1.out (by omega) x _ S0.out.popb.1 S0.out.popb.2).mono ?_); rintro e w2 ⟨rfl, v2, s', m'⟩)
      have HO' := Lib.hid (m'.has HO.out NO.out)
      have NO' := Lib.hid (m'.far HO.out.1 NO.out)
      clear HO NO
      have HO := HO'
      have NO := NO'
      clear HO' NO'
      refine hK.out _ _ ?s6 (fun hNew => ?r6)
      case s6 => exact ⟨HO.out.2.1, trivial⟩
      clear hK K hHeld
      have hHeld := hNew
      clear hNew
      have M2 := Lib.hid (M1.out.trans m')
      obtain ⟨y2, hy⟩ : ∃ q_, q_ = pairS x (popV y) y1 := ⟨_, rfl⟩
      rw [← hy] at s'
      have Y2 := Lib.hid hy
      have S2 := Lib.hid s'
      clear s' m' hy
      refine wpAnyH_done (by kernel_rfl) ?_ _
      obtain ⟨hc, hf⟩ := S2.out.cp
      have ho := HO.out.2.1
      go_wp2
      first | go_end0 | refine bodyPost_ret (results_none rfl _ _ _) rfl ?_
      refine ⟨rfl, v2, ?_, M2.out⟩
      have q := S2.out
      have e := Y2.out.symm
      subst e
      have e := Y1.out.symm
      subst e
      exact Sys.mono (n' := n + 2) q (by omega)
set_option maxHeartbeats 2000000 in
theorem perf_32 (h0 : Sys procD ramC w P R M tb v y n) (hn : n < 950000) (x z s nn : Int) (t : Bool) : Calls Tryz.prog 55 #[.pointer (some ⟨P, 0, none⟩), .agg #[.int .i64 32, .int .i64 x, .int .i64 z, .int .i64 s, .int .u16 nn], .bool t] w (PE procD ramC P R M tb v w (.tuple #[]) (setA (y.m (thruV x y)) (rd 1 (thruV x y) (thruS x y))) (n + 1)) := by
  have hm := mR ⟨R, 0, none⟩
  have S0 := Lib.hid (h0.below (own1 w (.cells #[.int .i64 32, .int .i64 x, .int .i64 z, .int .i64 s, .int .u16 nn] 44)))
  have M0 := Lib.hid (show PM P R M tb v w v (w.alloc (.cells #[.int .i64 32, .int .i64 x, .int .i64 z, .int .i64 s, .int .u16 nn] 44)) from PM.of (own1 w (.cells #[.int .i64 32, .int .i64 x, .int .i64 z, .int .i64 s, .int .u16 nn] 44)))
  have HO := Lib.hid (Has.new w #[.int .i64 32, .int .i64 x, .int .i64 z, .int .i64 s, .int .u16 nn] 44)
  have NO := Lib.hid (h0.new (Nat.le_refl w.heap.size))
  obtain ⟨hc, hf⟩ := S0.out.cp
  clear h0
  go_enter Tryz.func55, Tryz.ntmps55
  go_wp2
  generalize w.alloc (.cells #[.int .i64 32, .int .i64 x, .int .i64 z, .int .i64 s, .int .u16 nn] 44) = w0 at S0 M0 HO hc hf ⊢
  generalize w.heap.size = ob at HO NO ⊢
  have ho := HO.out.2.1
  have S0' := Lib.hid S0.out.drew
  have M0' := Lib.hid (M0.out.trans (PM.drew P R M tb v w0))
  have HO' := Lib.hid HO.out.drew
  clear ho HO
  have HO := HO'
  clear HO'
  clear hc hf
  refine wp_region_held_drew (S := (fun w' => (∀ j, w'.cell? ⟨ob, j, none⟩ = #[Value.int .i64 32, .int .i64 x, .int .i64 z, .int .i64 s, .int .u16 nn][j]?) ∧ (w'.cell? ⟨P, 14, none⟩ = some (.iface 31 (.pointer (some ⟨R, 0, none⟩)))) ∧ True)) (by kernel_rfl) ⟨HO.out.2.1, S0'.out.cp.1 14, trivial⟩ (fun hHeld => ?_)
  generalize World.drew w0 = u0 at hHeld S0' M0' HO ⊢
  clear S0 M0
  have S0 := S0'
  have M0 := M0'
  clear S0' M0'
  refine wpAnyH_take (i := 0) (oi := { dst := some 113, op := Go.Op.move (Go.Operand.tmp 0), type := 94, pos := "perform.go:45", after := #[], guard := none }) (v := ?v1) rfl (by kernel_rfl) (by kernel_rfl) (by kernel_rfl) (fun _ _ _ h => h) (Or.inl ⟨by rfl, ?y1⟩) (by assumption) ?z1
  case y1 => (intro w hSw; (try dsimp only at hSw); go_simp) <;> with_reducible rfl
  try simp only [Act.put, List.setIfInBounds_toArray, List.set_cons_zero, List.set_cons_succ]
  refine wpAnyH_take (i := 1) (oi := { dst := some 114, op := Go.Op.move (Go.Operand.tmp 0), type := 94, pos := "perform.go:45", after := #[], guard := none }) (v := ?v2) rfl (by kernel_rfl) (by kernel_rfl) (by kernel_rfl) (fun _ _ _ h => h) (Or.inl ⟨by rfl, ?y2⟩) (by assumption) ?z2
  case y2 => (intro w hSw; (try dsimp only at hSw); go_simp) <;> with_reducible rfl
  try simp only [Act.put, List.setIfInBounds_toArray, List.set_cons_zero, List.set_cons_succ]
  refine wpAnyH_take (i := 2) (oi := { dst := some 115, op := Go.Op.nilCheck (Go.Operand.tmp 114), type := 0, pos := "perform.go:45", after := #[{ on := 1, ground := Go.Ground.data }], guard := none }) (v := ?v3) rfl (by kernel_rfl) (by kernel_rfl) (by kernel_rfl) (fun _ _ _ h => h) (Or.inl ⟨by rfl, ?y3⟩) (by assumption) ?z3
  case y3 => (intro w hSw; (try dsimp only at hSw); go_simp) <;> with_reducible rfl
  try simp only [Act.put, List.setIfInBounds_toArray, List.set_cons_zero, List.set_cons_succ]
  refine wpAnyH_take (i := 3) (oi := { dst := some 116, op := Go.Op.fieldAddr 85 (Go.Operand.tmp 115) 1, type := 0, pos := "perform.go:45", after := #[{ on := 2, ground := Go.Ground.data }], guard := none }) (v := ?v4) rfl (by kernel_rfl) (by kernel_rfl) (by kernel_rfl) (fun _ _ _ h => h) (Or.inl ⟨by rfl, ?y4⟩) (by assumption) ?z4
  case y4 => (intro w hSw; (try dsimp only at hSw); go_simp) <;> with_reducible rfl
  try simp only [Act.put, List.setIfInBounds_toArray, List.set_cons_zero, List.set_cons_succ]
  refine wpAnyH_take (i := 4) (oi := { dst := some 117, op := Go.Op.load 83 (Go.Operand.tmp 116), type := 83, pos := "perform.go:45", after := #[{ on := 3, ground := Go.Ground.data }], guard := none }) (v := ?v5) rfl (by kernel_rfl) (by kernel_rfl) (by kernel_rfl) (fun _ _ _ h => h) (Or.inl ⟨by rfl, ?y5⟩) (by assumption) ?z5
  case y5 => (intro w hSw; (try dsimp only at hSw); go_simp) <;> with_reducible rfl
  try simp only [Act.put, List.setIfInBounds_toArray, List.set_cons_zero, List.set_cons_succ]
  refine wpAnyH_take (i := 5) (oi := { dst := some 118, op := Go.Op.move (Go.Operand.tmp 0), type := 94, pos := "perform.go:45", after := #[], guard := none }) (v := ?v6) rfl (by kernel_rfl) (by kernel_rfl) (by kernel_rfl) (fun _ _ _ h => h) (Or.inl ⟨by rfl, ?y6⟩) (by assumption) ?z6
  case y6 => (intro w hSw; (try dsimp only at hSw); go_simp) <;> with_reducible rfl
  try simp only [Act.put, List.setIfInBounds_toArray, List.set_cons_zero, List.set_cons_succ]
  refine wpAnyH_take (i := 6) (oi := { dst := some 119, op := Go.Op.load 44 (Go.Operand.tmp 4), type := 44, pos := "perform.go:45", after := #[], guard := none }) (v := ?v7) rfl (by kernel_rfl) (by kernel_rfl) (by kernel_rfl) (fun _ _ _ h => h) (Or.inl ⟨by rfl, ?y7⟩) (by assumption) ?z7
  case y7 => (intro w hSw; (try dsimp only at hSw); go_simp) <;> with_reducible rfl
  try simp only [Act.put, List.setIfInBounds_toArray, List.set_cons_zero, List.set_cons_succ]
  refine wpAnyH_take (i := 8) (oi := { dst := some 121, op := Go.Op.nilCheck (Go.Operand.tmp 117), type := 83, pos := "perform.go:45", after := #[{ on := 4, ground := Go.Ground.data }], guard := none }) (v := ?v8) rfl (by kernel_rfl) (by kernel_rfl) (by kernel_rfl) (fun _ _ _ h => h) (Or.inl ⟨by rfl, ?y8⟩) (by assumption) ?z8
  case y8 => (intro w hSw; (try dsimp only at hSw); go_simp) <;> with_reducible rfl
  try simp only [Act.put, List.setIfInBounds_toArray, List.set_cons_zero, List.set_cons_succ]
  refine wpAnyH_take (i := 9) (oi := { dst := some 122, op := Go.Op.move (Go.Operand.tmp 117), type := 83, pos := "perform.go:45", after := #[{ on := 4, ground := Go.Ground.data }, { on := 8, ground := Go.Ground.data }], guard := none }) (v := ?v9) rfl (by kernel_rfl) (by kernel_rfl) (by kernel_rfl) (fun _ _ _ h => h) (Or.inl ⟨by rfl, ?y9⟩) (by assumption) ?z9
  case y9 => (intro w hSw; (try dsimp only at hSw); go_simp) <;> with_reducible rfl
  try simp only [Act.put, List.setIfInBounds_toArray, List.set_cons_zero, List.set_cons_succ]
  refine wpAnyH_ready (rs := [7]) (by kernel_rfl) (by simp) ?_
  refine (AllReadyH.cons (o := { dst := some 120, op := Go.Op.call { callee := Go.Callee.value (Go.Operand.func 81), args := #[Go.Operand.tmp 118, Go.Operand.tmp 119], argTypes := #[94, 44] }, type := 22, pos := "perform.go:45", after := #[{ on := 5, ground := Go.Ground.data }, { on := 6, ground := Go.Ground.data }], guard := none }) rfl (fun K hK => ?_) AllReadyH.nil)
  · skip
    go_simp
    go_wp2_with (go_at_call 81; (with_reducible refine (addr_32 S0.out (by omega) x z s nn).mono ?_); rintro e w1 ⟨rfl, v1, s', m'⟩)
    have HO' := Lib.hid (m'.has HO.out NO.out)
    have NO' := Lib.hid (m'.far HO.out.1 NO.out)
    clear HO NO
    have HO := HO'
    have NO := NO'
    clear HO' NO'
    refine hK.out _ _ ?s10 (fun hNew => ?r10)
    case s10 => exact ⟨HO.out.2.1, s'.cp.1 14, trivial⟩
    clear hK K hHeld
    have hHeld := hNew
    clear hNew
    have M1 := Lib.hid (M0.out.trans m')
    obtain ⟨y1, hy⟩ : ∃ q_, q_ = thruS x y := ⟨_, rfl⟩
    rw [← hy] at s'
    have Y1 := Lib.hid hy
    have S1 := Lib.hid s'
    clear s' m' hy
    refine wpAnyH_ready (rs := [10]) (by kernel_rfl) (by simp) ?_
    refine (AllReadyH.cons (o := { dst := some 123, op := Go.Op.call { callee := Go.Callee.invoke (Go.Operand.tmp 122) "Read", args := #[Go.Operand.tmp 120], argTypes := #[22] }, type := 5, pos := "perform.go:45", after := #[{ on := 9, ground := Go.Ground.data }, { on := 7, ground := Go.Ground.data }, { on := 7, ground := Go.Ground.chain }], guard := none }) rfl (fun K hK => ?_) AllReadyH.nil)
    · skip
      go_simp
      go_wp2_with (go_at_call 176; (with_reducible refine (read_p S1.out (by omega) _ (thruV_b S0.out x).1 (thruV_b S0.out x).2).mono ?_); rintro e w2 ⟨rfl, v2, s', m'⟩)
      have HO' := Lib.hid (m'.has HO.out NO.out)
      have NO' := Lib.hid (m'.far HO.out.1 NO.out)
      clear HO NO
      have HO := HO'
      have NO := NO'
      clear HO' NO'
      refine hK.out _ _ ?s11 (fun hNew => ?r11)
      case s11 => exact ⟨HO.out.2.1, s'.cp.1 14, trivial⟩
      clear hK K hHeld
      have hHeld := hNew
      clear hNew
      have M2 := Lib.hid (M1.out.trans m')
      obtain ⟨y2, hy⟩ : ∃ q_, q_ = rd 1 (thruV x y) y1 := ⟨_, rfl⟩
      rw [← hy] at s'
      have Y2 := Lib.hid hy
      have S2 := Lib.hid s'
      clear s' m' hy
      refine wpAnyH_take (i := 11) (oi := { dst := some 124, op := Go.Op.nilCheck (Go.Operand.tmp 113), type := 0, pos := "perform.go:45", after := #[{ on := 0, ground := Go.Ground.data }, { on := 0, ground := Go.Ground.phase }, { on := 1, ground := Go.Ground.phase }, { on := 2, ground := Go.Ground.phase }, { on := 3, ground := Go.Ground.phase }, { on := 4, ground := Go.Ground.phase }, { on := 5, ground := Go.Ground.phase }, { on := 6, ground := Go.Ground.phase }, { on := 7, ground := Go.Ground.phase }, { on := 8, ground := Go.Ground.phase }, { on := 9, ground := Go.Ground.phase }, { on := 10, ground := Go.Ground.phase }], guard := none }) (v := ?v12) rfl (by kernel_rfl) (by kernel_rfl) (by kernel_rfl) (fun _ _ _ h => h) (Or.inl ⟨by rfl, ?y12⟩) (by assumption) ?z12
      case y12 => (intro w hSw; (try dsimp only at hSw); go_simp) <;> with_reducible rfl
      try simp only [Act.put, List.setIfInBounds_toArray, List.set_cons_zero, List.set_cons_succ]
      refine wpAnyH_take (i := 12) (oi := { dst := some 125, op := Go.Op.fieldAddr 85 (Go.Operand.tmp 124) 0, type := 0, pos := "perform.go:45", after := #[{ on := 11, ground := Go.Ground.data }, { on := 0, ground := Go.Ground.phase }, { on := 1, ground := Go.Ground.phase }, { on := 2, ground := Go.Ground.phase }, { on := 3, ground := Go.Ground.phase }, { on := 4, ground := Go.Ground.phase }, { on := 5, ground := Go.Ground.phase }, { on := 6, ground := Go.Ground.phase }, { on := 7, ground := Go.Ground.phase }, { on := 8, ground := Go.Ground.phase }, { on := 9, ground := Go.Ground.phase }, { on := 10, ground := Go.Ground.phase }], guard := none }) (v := ?v13) rfl (by kernel_rfl) (by kernel_rfl) (by kernel_rfl) (fun _ _ _ h => h) (Or.inl ⟨by rfl, ?y13⟩) (by assumption) ?z13
      case y13 => (intro w hSw; (try dsimp only at hSw); go_simp) <;> with_reducible rfl
      try simp only [Act.put, List.setIfInBounds_toArray, List.set_cons_zero, List.set_cons_succ]
      refine wpAnyH_take (i := 13) (oi := { dst := some 126, op := Go.Op.fieldAddr 41 (Go.Operand.tmp 125) 0, type := 0, pos := "perform.go:45", after := #[{ on := 12, ground := Go.Ground.data }, { on := 0, ground := Go.Ground.phase }, { on := 1, ground := Go.Ground.phase }, { on := 2, ground := Go.Ground.phase }, { on := 3, ground := Go.Ground.phase }, { on := 4, ground := Go.Ground.phase }, { on := 5, ground := Go.Ground.phase }, { on := 6, ground := Go.Ground.phase }, { on := 7, ground := Go.Ground.phase }, { on := 8, ground := Go.Ground.phase }, { on := 9, ground := Go.Ground.phase }, { on := 10, ground := Go.Ground.phase }], guard := none }) (v := ?v14) rfl (by kernel_rfl) (by kernel_rfl) (by kernel_rfl) (fun _ _ _ h => h) (Or.inl ⟨by rfl, ?y14⟩) (by assumption) ?z14
      case y14 => (intro w hSw; (try dsimp only at hSw); go_simp) <;> with_reducible rfl
      try simp only [Act.put, List.setIfInBounds_toArray, List.set_cons_zero, List.set_cons_succ]
      refine wpAnyH_take (i := 14) (oi := { dst := some 127, op := Go.Op.fieldAddr 39 (Go.Operand.tmp 126) 0, type := 0, pos := "perform.go:45", after := #[{ on := 13, ground := Go.Ground.data }, { on := 0, ground := Go.Ground.phase }, { on := 1, ground := Go.Ground.phase }, { on := 2, ground := Go.Ground.phase }, { on := 3, ground := Go.Ground.phase }, { on := 4, ground := Go.Ground.phase }, { on := 5, ground := Go.Ground.phase }, { on := 6, ground := Go.Ground.phase }, { on := 7, ground := Go.Ground.phase }, { on := 8, ground := Go.Ground.phase }, { on := 9, ground := Go.Ground.phase }, { on := 10, ground := Go.Ground.phase }], guard := none }) (v := ?v15) rfl (by kernel_rfl) (by kernel_rfl) (by kernel_rfl) (fun _ _ _ h => h) (Or.inl ⟨by rfl, ?y15⟩) (by assumption) ?z15
      case y15 => (intro w hSw; (try dsimp only at hSw); go_simp) <;> with_reducible rfl
      try simp only [Act.put, List.setIfInBounds_toArray, List.set_cons_zero, List.set_cons_succ]
      refine wpAnyH_ready (rs := [15]) (by kernel_rfl) (by simp) ?_
      refine (AllReadyH.cons (o := { dst := none, op := Go.Op.store 5 (Go.Operand.tmp 127) (Go.Operand.tmp 123), type := 0, pos := "perform.go:45", after := #[{ on := 14, ground := Go.Ground.data }, { on := 10, ground := Go.Ground.data }, { on := 10, ground := Go.Ground.chain }, { on := 0, ground := Go.Ground.phase }, { on := 1, ground := Go.Ground.phase }, { on := 2, ground := Go.Ground.phase }, { on := 3, ground := Go.Ground.phase }, { on := 4, ground := Go.Ground.phase }, { on := 5, ground := Go.Ground.phase }, { on := 6, ground := Go.Ground.phase }, { on := 7, ground := Go.Ground.phase }, { on := 8, ground := Go.Ground.phase }, { on := 9, ground := Go.Ground.phase }, { on := 10, ground := Go.Ground.phase }], guard := none }) rfl (fun K hK => ?_) AllReadyH.nil)
      · skip
        obtain ⟨hc, hf⟩ := S2.out.cp
        go_simp
        clear hc hf
        have q := S2.out.stA (y1.m (thruV x y)) (S1.out.okm _).1 (S1.out.okm _).2
        have s' := q.1
        have m' := q.2
        clear q
        have HO' := Lib.hid (m'.has HO.out NO.out)
        have NO' := Lib.hid (m'.far HO.out.1 NO.out)
        clear HO NO
        have HO := HO'
        have NO := NO'
        clear HO' NO'
        refine hK.out _ _ ?s16 (fun hNew => ?r16)
        case s16 => exact ⟨HO.out.2.1, s'.cp.1 14, trivial⟩
        clear hK K hHeld
        have hHeld := hNew
        clear hNew
        generalize World.setCell w2 ⟨P, 0, none⟩ (.int .u8 (y1.m (thruV x y))) = w3 at hHeld s' m' HO ⊢
        have M3 := Lib.hid (M2.out.trans m')
        obtain ⟨y3, hy⟩ : ∃ q_, q_ = setA (y1.m (thruV x y)) y2 := ⟨_, rfl⟩
        rw [← hy] at s'
        have Y3 := Lib.hid hy
        have S3 := Lib.hid s'
        clear s' m' hy
        refine wpAnyH_done (by kernel_rfl) ?_ _
        obtain ⟨hc, hf⟩ := S3.out.cp
        have ho := HO.out.2.1
        go_wp2
        first | go_end0 | refine bodyPost_ret (results_none rfl _ _ _) rfl ?_
        refine ⟨rfl, v2, ?_, M3.out⟩
        have q := S3.out
        have e := Y3.out.symm
        subst e
        have e := Y2.out.symm
        subst e
        have e := Y1.out.symm
        subst e
        rw [thruS_m] at q
        exact Sys.mono (n' := n + 1) q (by omega)
set_option maxHeartbeats 2000000 in
theorem perf_34 (h0 : Sys procD ramC w P R M tb v y n) (hn : n < 950000) (x z s nn : Int) (n0 : 0 ≤ nn) (n1 : nn < 256) (t : Bool) : Calls Tryz.prog 55 #[.pointer (some ⟨P, 0, none⟩), .agg #[.int .i64 34, .int .i64 x, .int .i64 z, .int .i64 s, .int .u16 nn], .bool t] w (PE procD ramC P R M tb v w (.tuple #[]) (setA (y.m (65280 + nn)) (rd 1 (65280 + nn) y)) (n + 1)) := by
  have hm := mR ⟨R, 0, none⟩
  have nb : 0 ≤ 65280 + nn ∧ 65280 + nn < 65536 := by omega
  have S0 := Lib.hid (h0.below (own1 w (.cells #[.int .i64 34, .int .i64 x, .int .i64 z, .int .i64 s, .int .u16 nn] 44)))
  have M0 := Lib.hid (show PM P R M tb v w v (w.alloc (.cells #[.int .i64 34, .int .i64 x, .int .i64 z, .int .i64 s, .int .u16 nn] 44)) from PM.of (own1 w (.cells #[.int .i64 34, .int .i64 x, .int .i64 z, .int .i64 s, .int .u16 nn] 44)))
  have HO := Lib.hid (Has.new w #[.int .i64 34, .int .i64 x, .int .i64 z, .int .i64 s, .int .u16 nn] 44)
  have NO := Lib.hid (h0.new (Nat.le_refl w.heap.size))
  obtain ⟨hc, hf⟩ := S0.out.cp
  clear h0
  go_enter Tryz.func55, Tryz.ntmps55
  go_wp2
  generalize w.alloc (.cells #[.int .i64 34, .int .i64 x, .int .i64 z, .int .i64 s, .int .u16 nn] 44) = w0 at S0 M0 HO hc hf ⊢
  generalize w.heap.size = ob at HO NO ⊢
  have ho := HO.out.2.1
  have S0' := Lib.hid S0.out.drew
  have M0' := Lib.hid (M0.out.trans (PM.drew P R M tb v w0))
  have HO' := Lib.hid HO.out.drew
  clear ho HO
  have HO := HO'
  clear HO'
  clear hc hf
  refine wp_region_held_drew (S := (fun w' => (∀ j, w'.cell? ⟨ob, j, none⟩ = #[Value.int .i64 34, .int .i64 x, .int .i64 z, .int .i64 s, .int .u16 nn][j]?) ∧ (w'.cell? ⟨P, 14, none⟩ = some (.iface 31 (.pointer (some ⟨R, 0, none⟩)))) ∧ True)) (by kernel_rfl) ⟨HO.out.2.1, S0'.out.cp.1 14, trivial⟩ (fun hHeld => ?_)
  generalize World.drew w0 = u0 at hHeld S0' M0' HO ⊢
  clear S0 M0
  have S0 := S0'
  have M0 := M0'
  clear S0' M0'
  refine wpAnyH_take (i := 0) (oi := { dst := some 113, op := Go.Op.move (Go.Operand.tmp 0), type := 94, pos := "perform.go:45", after := #[], guard := none }) (v := ?v1) rfl (by kernel_rfl) (by kernel_rfl) (by kernel_rfl) (fun _ _ _ h => h) (Or.inl ⟨by rfl, ?y1⟩) (by assumption) ?z1
  case y1 => (intro w hSw; (try dsimp only at hSw); go_simp) <;> with_reducible rfl
  try simp only [Act.put, List.setIfInBounds_toArray, List.set_cons_zero, List.set_cons_succ]
  refine wpAnyH_take (i := 1) (oi := { dst := some 114, op := Go.Op.move (Go.Operand.tmp 0), type := 94, pos := "perform.go:45", after := #[], guard := none }) (v := ?v2) rfl (by kernel_rfl) (by kernel_rfl) (by kernel_rfl) (fun _ _ _ h => h) (Or.inl ⟨by rfl, ?y2⟩) (by assumption) ?z2
  case y2 => (intro w hSw; (try dsimp only at hSw); go_simp) <;> with_reducible rfl
  try simp only [Act.put, List.setIfInBounds_toArray, List.set_cons_zero, List.set_cons_succ]
  refine wpAnyH_take (i := 2) (oi := { dst := some 115, op := Go.Op.nilCheck (Go.Operand.tmp 114), type := 0, pos := "perform.go:45", after := #[{ on := 1, ground := Go.Ground.data }], guard := none }) (v := ?v3) rfl (by kernel_rfl) (by kernel_rfl) (by kernel_rfl) (fun _ _ _ h => h) (Or.inl ⟨by rfl, ?y3⟩) (by assumption) ?z3
  case y3 => (intro w hSw; (try dsimp only at hSw); go_simp) <;> with_reducible rfl
  try simp only [Act.put, List.setIfInBounds_toArray, List.set_cons_zero, List.set_cons_succ]
  refine wpAnyH_take (i := 3) (oi := { dst := some 116, op := Go.Op.fieldAddr 85 (Go.Operand.tmp 115) 1, type := 0, pos := "perform.go:45", after := #[{ on := 2, ground := Go.Ground.data }], guard := none }) (v := ?v4) rfl (by kernel_rfl) (by kernel_rfl) (by kernel_rfl) (fun _ _ _ h => h) (Or.inl ⟨by rfl, ?y4⟩) (by assumption) ?z4
  case y4 => (intro w hSw; (try dsimp only at hSw); go_simp) <;> with_reducible rfl
  try simp only [Act.put, List.setIfInBounds_toArray, List.set_cons_zero, List.set_cons_succ]
  refine wpAnyH_take (i := 4) (oi := { dst := some 117, op := Go.Op.load 83 (Go.Operand.tmp 116), type := 83, pos := "perform.go:45", after := #[{ on := 3, ground := Go.Ground.data }], guard := none }) (v := ?v5) rfl (by kernel_rfl) (by kernel_rfl) (by kernel_rfl) (fun _ _ _ h => h) (Or.inl ⟨by rfl, ?y5⟩) (by assumption) ?z5
  case y5 => (intro w hSw; (try dsimp only at hSw); go_simp) <;> with_reducible rfl
  try simp only [Act.put, List.setIfInBounds_toArray, List.set_cons_zero, List.set_cons_succ]
  refine wpAnyH_take (i := 5) (oi := { dst := some 118, op := Go.Op.move (Go.Operand.tmp 0), type := 94, pos := "perform.go:45", after := #[], guard := none }) (v := ?v6) rfl (by kernel_rfl) (by kernel_rfl) (by kernel_rfl) (fun _ _ _ h => h) (Or.inl ⟨by rfl, ?y6⟩) (by assumption) ?z6
  case y6 => (intro w hSw; (try dsimp only at hSw); go_simp) <;> with_reducible rfl
  try simp only [Act.put, List.setIfInBounds_toArray, List.set_cons_zero, List.set_cons_succ]
  refine wpAnyH_take (i := 6) (oi := { dst := some 119, op := Go.Op.load 44 (Go.Operand.tmp 4), type := 44, pos := "perform.go:45", after := #[], guard := none }) (v := ?v7) rfl (by kernel_rfl) (by kernel_rfl) (by kernel_rfl) (fun _ _ _ h => h) (Or.inl ⟨by rfl, ?y7⟩) (by assumption) ?z7
  case y7 => (intro w hSw; (try dsimp only at hSw); go_simp) <;> with_reducible rfl
  try simp only [Act.put, List.setIfInBounds_toArray, List.set_cons_zero, List.set_cons_succ]
  refine wpAnyH_take (i := 8) (oi := { dst := some 121, op := Go.Op.nilCheck (Go.Operand.tmp 117), type := 83, pos := "perform.go:45", after := #[{ on := 4, ground := Go.Ground.data }], guard := none }) (v := ?v8) rfl (by kernel_rfl) (by kernel_rfl) (by kernel_rfl) (fun _ _ _ h => h) (Or.inl ⟨by rfl, ?y8⟩) (by assumption) ?z8
  case y8 => (intro w hSw; (try dsimp only at hSw); go_simp) <;> with_reducible rfl
  try simp only [Act.put, List.setIfInBounds_toArray, List.set_cons_zero, List.set_cons_succ]
  refine wpAnyH_take (i := 9) (oi := { dst := some 122, op := Go.Op.move (Go.Operand.tmp 117), type := 83, pos := "perform.go:45", after := #[{ on := 4, ground := Go.Ground.data }, { on := 8, ground := Go.Ground.data }], guard := none }) (v := ?v9) rfl (by kernel_rfl) (by kernel_rfl) (by kernel_rfl) (fun _ _ _ h => h) (Or.inl ⟨by rfl, ?y9⟩) (by assumption) ?z9
  case y9 => (intro w hSw; (try dsimp only at hSw); go_simp) <;> with_reducible rfl
  try simp only [Act.put, List.setIfInBounds_toArray, List.set_cons_zero, List.set_cons_succ]
  refine wpAnyH_ready (rs := [7]) (by kernel_rfl) (by simp) ?_
  refine (AllReadyH.cons (o := { dst := some 120, op := Go.Op.call { callee := Go.Callee.value (Go.Operand.func 81), args := #[Go.Operand.tmp 118, Go.Operand.tmp 119], argTypes := #[94, 44] }, type := 22, pos := "perform.go:45", after := #[{ on := 5, ground := Go.Ground.data }, { on := 6, ground := Go.Ground.data }], guard := none }) rfl (fun K hK => ?_) AllReadyH.nil)
  · skip
    go_simp
    go_wp2_with (go_at_call 81; (with_reducible refine (addr_34 S0.out (by omega) x z s nn n0 n1).mono ?_); rintro e w1 ⟨rfl, v1, s', m'⟩)
    have HO' := Lib.hid (m'.has HO.out NO.out)
    have NO' := Lib.hid (m'.far HO.out.1 NO.out)
    clear HO NO
    have HO := HO'
    have NO := NO'
    clear HO' NO'
    refine hK.out _ _ ?s10 (fun hNew => ?r10)
    case s10 => exact ⟨HO.out.2.1, s'.cp.1 14, trivial⟩
    clear hK K hHeld
    have hHeld := hNew
    clear hNew
    have M1 := Lib.hid (M0.out.trans m')
    obtain ⟨y1, hy⟩ : ∃ q_, q_ = y := ⟨_, rfl⟩
    rw [← hy] at s'
    have Y1 := Lib.hid hy
    have S1 := Lib.hid s'
    clear s' m' hy
    refine wpAnyH_ready (rs := [10]) (by kernel_rfl) (by simp) ?_
    refine (AllReadyH.cons (o := { dst := some 123, op := Go.Op.call { callee := Go.Callee.invoke (Go.Operand.tmp 122) "Read", args := #[Go.Operand.tmp 120], argTypes := #[22] }, type := 5, pos := "perform.go:45", after := #[{ on := 9, ground := Go.Ground.data }, { on := 7, ground := Go.Ground.data }, { on := 7, ground := Go.Ground.chain }], guard := none }) rfl (fun K hK => ?_) AllReadyH.nil)
    · skip
      go_simp
      go_wp2_with (go_at_call 176; (with_reducible refine (read_p S1.out (by omega) _ (nb).1 (nb).2).mono ?_); rintro e w2 ⟨rfl, v2, s', m'⟩)
      have HO' := Lib.hid (m'.has HO.out NO.out)
      have NO' := Lib.hid (m'.far HO.out.1 NO.out)
      clear HO NO
      have HO := HO'
      have NO := NO'
      clear HO' NO'
      refine hK.out _ _ ?s11 (fun hNew => ?r11)
      case s11 => exact ⟨HO.out.2.1, s'.cp.1 14, trivial⟩
      clear hK K hHeld
      have hHeld := hNew
      clear hNew
      have M2 := Lib.hid (M1.out.trans m')
      obtain ⟨y2, hy⟩ : ∃ q_, q_ = rd 1 (65280 + nn) y1 := ⟨_, rfl⟩
      rw [← hy] at s'
      have Y2 := Lib.hid hy
      have S2 := Lib.hid s'
      clear s' m' hy
      refine wpAnyH_take (i := 11) (oi := { dst := some 124, op := Go.Op.nilCheck (Go.Operand.tmp 113), type := 0, pos := "perform.go:45", after := #[{ on := 0, ground := Go.Ground.data }, { on := 0, ground := Go.Ground.phase }, { on := 1, ground := Go.Ground.phase }, { on := 2, ground := Go.Ground.phase }, { on := 3, ground := Go.Ground.phase }, { on := 4, ground := Go.Ground.phase }, { on := 5, ground := Go.Ground.phase }, { on := 6, ground := Go.Ground.phase }, { on := 7, ground := Go.Ground.phase }, { on := 8, ground := Go.Ground.phase }, { on := 9, ground := Go.Ground.phase }, { on := 10, ground := Go.Ground.phase }], guard := none }) (v := ?v12) rfl (by kernel_rfl) (by kernel_rfl) (by kernel_rfl) (fun _ _ _ h => h) (Or.inl ⟨by rfl, ?y12⟩) (by assumption) ?z12
      case y12 => (intro w hSw; (try dsimp only at hSw); go_simp) <;> with_reducible rfl
      try simp only [Act.put, List.setIfInBounds_toArray, List.set_cons_zero, List.set_cons_succ]
      refine wpAnyH_take (i := 12) (oi := { dst := some 125, op := Go.Op.fieldAddr 85 (Go.Operand.tmp 124) 0, type := 0, pos := "perform.go:45", after := #[{ on := 11, ground := Go.Ground.data }, { on := 0, ground := Go.Ground.phase }, { on := 1, ground := Go.Ground.phase }, { on := 2, ground := Go.Ground.phase }, { on := 3, ground := Go.Ground.phase }, { on := 4, ground := Go.Ground.phase }, { on := 5, ground := Go.Ground.phase }, { on := 6, ground := Go.Ground.phase }, { on := 7, ground := Go.Ground.phase }, { on := 8, ground := Go.Ground.phase }, { on := 9, ground := Go.Ground.phase }, { on := 10, ground := Go.Ground.phase }], guard := none }) (v := ?v13) rfl (by kernel_rfl) (by kernel_rfl) (by kernel_rfl) (fun _ _ _ h => h) (Or.inl ⟨by rfl, ?y13⟩) (by assumption) ?z13
      case y13 => (intro w hSw; (try dsimp only at hSw); go_simp) <;> with_reducible rfl
      try simp only [Act.put, List.setIfInBounds_toArray, List.set_cons_zero, List.set_cons_succ]
      refine wpAnyH_take (i := 13) (oi := { dst := some 126, op := Go.Op.fieldAddr 41 (Go.Operand.tmp 125) 0, type := 0, pos := "perform.go:45", after := #[{ on := 12, ground := Go.Ground.data }, { on := 0, ground := Go.Ground.phase }, { on := 1, ground := Go.Ground.phase }, { on := 2, ground := Go.Ground.phase }, { on := 3, ground := Go.Ground.phase }, { on := 4, ground := Go.Ground.phase }, { on := 5, ground := Go.Ground.phase }, { on := 6, ground := Go.Ground.phase }, { on := 7, ground := Go.Ground.phase }, { on := 8, ground := Go.Ground.phase }, { on := 9, ground := Go.Ground.phase }, { on := 10, ground := Go.Ground.phase }], guard := none }) (v := ?v14) rfl (by kernel_rfl) (by kernel_rfl) (by kernel_rfl) (fun _ _ _ h => h) (Or.inl ⟨by rfl, ?y14⟩) (by assumption) ?z14
      case y14 => (intro w hSw; (try dsimp only at hSw); go_simp) <;> with_reducible rfl
      try simp only [Act.put, List.setIfInBounds_toArray, List.set_cons_zero, List.set_cons_succ]
      refine wpAnyH_take (i := 14) (oi := { dst := some 127, op := Go.Op.fieldAddr 39 (Go.Operand.tmp 126) 0, type := 0, pos := "perform.go:45", after := #[{ on := 13, ground := Go.Ground.data }, { on := 0, ground := Go.Ground.phase }, { on := 1, ground := Go.Ground.phase }, { on := 2, ground := Go.Ground.phase }, { on := 3, ground := Go.Ground.phase }, { on := 4, ground := Go.Ground.phase }, { on := 5, ground := Go.Ground.phase }, { on := 6, ground := Go.Ground.phase }, { on := 7, ground := Go.Ground.phase }, { on := 8, ground := Go.Ground.phase }, { on := 9, ground := Go.Ground.phase }, { on := 10, ground := Go.Ground.phase }], guard := none }) (v := ?v15) rfl (by kernel_rfl) (by kernel_rfl) (by kernel_rfl) (fun _ _ _ h => h) (Or.inl ⟨by rfl, ?y15⟩) (by assumption) ?z15
      case y15 => (intro w hSw; (try dsimp only at hSw); go_simp) <;> with_reducible rfl
      try simp only [Act.put, List.setIfInBounds_toArray, List.set_cons_zero, List.set_cons_succ]
      refine wpAnyH_ready (rs := [15]) (by kernel_rfl) (by simp) ?_
      refine (AllReadyH.cons (o := { dst := none, op := Go.Op.store 5 (Go.Operand.tmp 127) (Go.Operand.tmp 123), type := 0, pos := "perform.go:45", after := #[{ on := 14, ground := Go.Ground.data }, { on := 10, ground := Go.Ground.data }, { on := 10, ground := Go.Ground.chain }, { on := 0, ground := Go.Ground.phase }, { on := 1, ground := Go.Ground.phase }, { on := 2, ground := Go.Ground.phase }, { on := 3, ground := Go.Ground.phase }, { on := 4, ground := Go.Ground.phase }, { on := 5, ground := Go.Ground.phase }, { on := 6, ground := Go.Ground.phase }, { on := 7, ground := Go.Ground.phase }, { on := 8, ground := Go.Ground.phase }, { on := 9, ground := Go.Ground.phase }, { on := 10, ground := Go.Ground.phase }], guard := none }) rfl (fun K hK => ?_) AllReadyH.nil)
      · skip
        obtain ⟨hc, hf⟩ := S2.out.cp
        go_simp
        clear hc hf
        have q := S2.out.stA (y1.m (65280 + nn)) (S1.out.okm _).1 (S1.out.okm _).2
        have s' := q.1
        have m' := q.2
        clear q
        have HO' := Lib.hid (m'.has HO.out NO.out)
        have NO' := Lib.hid (m'.far HO.out.1 NO.out)
        clear HO NO
        have HO := HO'
        have NO := NO'
        clear HO' NO'
        refine hK.out _ _ ?s16 (fun hNew => ?r16)
        case s16 => exact ⟨HO.out.2.1, s'.cp.1 14, trivial⟩
        clear hK K hHeld
        have hHeld := hNew
        clear hNew
        generalize World.setCell w2 ⟨P, 0, none⟩ (.int .u8 (y1.m (65280 + nn))) = w3 at hHeld s' m' HO ⊢
        have M3 := Lib.hid (M2.out.trans m')
        obtain ⟨y3, hy⟩ : ∃ q_, q_ = setA (y1.m (65280 + nn)) y2 := ⟨_, rfl⟩
        rw [← hy] at s'
        have Y3 := Lib.hid hy
        have S3 := Lib.hid s'
        clear s' m' hy
        refine wpAnyH_done (by kernel_rfl) ?_ _
        obtain ⟨hc, hf⟩ := S3.out.cp
        have ho := HO.out.2.1
        go_wp2
        first | go_end0 | refine bodyPost_ret (results_none rfl _ _ _) rfl ?_
        refine ⟨rfl, v2, ?_, M3.out⟩
        have q := S3.out
        have e := Y3.out.symm
        subst e
        have e := Y2.out.symm
        subst e
        have e := Y1.out.symm
        subst e
        exact Sys.mono (n' := n + 1) q (by omega)
set_option maxHeartbeats 2000000 in
theorem perf_36 (h0 : Sys procD ramC w P R M tb v y n) (hn : n < 950000) (x z s nn : Int) (t : Bool) : Calls Tryz.prog 55 #[.pointer (some ⟨P, 0, none⟩), .agg #[.int .i64 36, .int .i64 x, .int .i64 z, .int .i64 s, .int .u16 nn], .bool t] w (PE procD ramC P R M tb v w (.tuple #[]) (setA (y.m (65280 + y.s.r.c)) (rd 1 (65280 + y.s.r.c) y)) (n + 1)) := by
  have hm := mR ⟨R, 0, none⟩
  have cb0 := h0.cb
  have cb : 0 ≤ 65280 + y.s.r.c ∧ 65280 + y.s.r.c < 65536 := by omega
  have S0 := Lib.hid (h0.below (own1 w (.cells #[.int .i64 36, .int .i64 x, .int .i64 z, .int .i64 s, .int .u16 nn] 44)))
  have M0 := Lib.hid (show PM P R M tb v w v (w.alloc (.cells #[.int .i64 36, .int .i64 x, .int .i64 z, .int .i64 s, .int .u16 nn] 44)) from PM.of (own1 w (.cells #[.int .i64 36, .int .i64 x, .int .i64 z, .int .i64 s, .int .u16 nn] 44)))
  have HO := Lib.hid (Has.new w #[.int .i64 36, .int .i64 x, .int .i64 z, .int .i64 s, .int .u16 nn] 44)
  have NO := Lib.hid (h0.new (Nat.le_refl w.heap.size))
  obtain ⟨hc, hf⟩ := S0.out.cp
  clear h0
  go_enter Tryz.func55, Tryz.ntmps55
  go_wp2
  generalize w.alloc (.cells #[.int .i64 36, .int .i64 x, .int .i64 z, .int .i64 s, .int .u16 nn] 44) = w0 at S0 M0 HO hc hf ⊢
  generalize w.heap.size = ob at HO NO ⊢
  have ho := HO.out.2.1
  have S0' := Lib.hid S0.out.drew
  have M0' := Lib.hid (M0.out.trans (PM.drew P R M tb v w0))
  have HO' := Lib.hid HO.out.drew
  clear ho HO
  have HO := HO'
  clear HO'
  clear hc hf
  refine wp_region_held_drew (S := (fun w' => (∀ j, w'.cell? ⟨ob, j, none⟩ = #[Value.int .i64 36, .int .i64 x, .int .i64 z, .int .i64 s, .int .u16 nn][j]?) ∧ (w'.cell? ⟨P, 14, none⟩ = some (.iface 31 (.pointer (some ⟨R, 0, none⟩)))) ∧ True)) (by kernel_rfl) ⟨HO.out.2.1, S0'.out.cp.1 14, trivial⟩ (fun hHeld => ?_)
  generalize World.drew w0 = u0 at hHeld S0' M0' HO ⊢
  clear S0 M0
  have S0 := S0'
  have M0 := M0'
  clear S0' M0'
  refine wpAnyH_take (i := 0) (oi := { dst := some 113, op := Go.Op.move (Go.Operand.tmp 0), type := 94, pos := "perform.go:45", after := #[], guard := none }) (v := ?v1) rfl (by kernel_rfl) (by kernel_rfl) (by kernel_rfl) (fun _ _ _ h => h) (Or.inl ⟨by rfl, ?y1⟩) (by assumption) ?z1
  case y1 => (intro w hSw; (try dsimp only at hSw); go_simp) <;> with_reducible rfl
  try simp only [Act.put, List.setIfInBounds_toArray, List.set_cons_zero, List.set_cons_succ]
  refine wpAnyH_take (i := 1) (oi := { dst := some 114, op := Go.Op.move (Go.Operand.tmp 0), type := 94, pos := "perform.go:45", after := #[], guard := none }) (v := ?v2) rfl (by kernel_rfl) (by kernel_rfl) (by kernel_rfl) (fun _ _ _ h => h) (Or.inl ⟨by rfl, ?y2⟩) (by assumption) ?z2
  case y2 => (intro w hSw; (try dsimp only at hSw); go_simp) <;> with_reducible rfl
  try simp only [Act.put, List.setIfInBounds_toArray, List.set_cons_zero, List.set_cons_succ]
  refine wpAnyH_take (i := 2) (oi := { dst := some 115, op := Go.Op.nilCheck (Go.Operand.tmp 114), type := 0, pos := "perform.go:45", after := #[{ on := 1, ground := Go.Ground.data }], guard := none }) (v := ?v3) rfl (by kernel_rfl) (by kernel_rfl) (by kernel_rfl) (fun _ _ _ h => h) (Or.inl ⟨by rfl, ?y3⟩) (by assumption) ?z3
  case y3 => (intro w hSw; (try dsimp only at hSw); go_simp) <;> with_reducible rfl
  try simp only [Act.put, List.setIfInBounds_toArray, List.set_cons_zero, List.set_cons_succ]
  refine wpAnyH_take (i := 3) (oi := { dst := some 116, op := Go.Op.fieldAddr 85 (Go.Operand.tmp 115) 1, type := 0, pos := "perform.go:45", after := #[{ on := 2, ground := Go.Ground.data }], guard := none }) (v := ?v4) rfl (by kernel_rfl) (by kernel_rfl) (by kernel_rfl) (fun _ _ _ h => h) (Or.inl ⟨by rfl, ?y4⟩) (by assumption) ?z4
  case y4 => (intro w hSw; (try dsimp only at hSw); go_simp) <;> with_reducible rfl
  try simp only [Act.put, List.setIfInBounds_toArray, List.set_cons_zero, List.set_cons_succ]
  refine wpAnyH_take (i := 4) (oi := { dst := some 117, op := Go.Op.load 83 (Go.Operand.tmp 116), type := 83, pos := "perform.go:45", after := #[{ on := 3, ground := Go.Ground.data }], guard := none }) (v := ?v5) rfl (by kernel_rfl) (by kernel_rfl) (by kernel_rfl) (fun _ _ _ h => h) (Or.inl ⟨by rfl, ?y5⟩) (by assumption) ?z5
  case y5 => (intro w hSw; (try dsimp only at hSw); go_simp) <;> with_reducible rfl
  try simp only [Act.put, List.setIfInBounds_toArray, List.set_cons_zero, List.set_cons_succ]
  refine wpAnyH_take (i := 5) (oi := { dst := some 118, op := Go.Op.move (Go.Operand.tmp 0), type := 94, pos := "perform.go:45", after := #[], guard := none }) (v := ?v6) rfl (by kernel_rfl) (by kernel_rfl) (by kernel_rfl) (fun _ _ _ h => h) (Or.inl ⟨by rfl, ?y6⟩) (by assumption) ?z6
  case y6 => (intro w hSw; (try dsimp only at hSw); go_simp) <;> with_reducible rfl
  try simp only [Act.put, List.setIfInBounds_toArray, List.set_cons_zero, List.set_cons_succ]
  refine wpAnyH_take (i := 6) (oi := { dst := some 119, op := Go.Op.load 44 (Go.Operand.tmp 4), type := 44, pos := "perform.go:45", after := #[], guard := none }) (v := ?v7) rfl (by kernel_rfl) (by kernel_rfl) (by kernel_rfl) (fun _ _ _ h => h) (Or.inl ⟨by rfl, ?y7⟩) (by assumption) ?z7
  case y7 => (intro w hSw; (try dsimp only at hSw); go_simp) <;> with_reducible rfl
  try simp only [Act.put, List.setIfInBounds_toArray, List.set_cons_zero, List.set_cons_succ]
  refine wpAnyH_take (i := 8) (oi := { dst := some 121, op := Go.Op.nilCheck (Go.Operand.tmp 117), type := 83, pos := "perform.go:45", after := #[{ on := 4, ground := Go.Ground.data }], guard := none }) (v := ?v8) rfl (by kernel_rfl) (by kernel_rfl) (by kernel_rfl) (fun _ _ _ h => h) (Or.inl ⟨by rfl, ?y8⟩) (by assumption) ?z8
  case y8 => (intro w hSw; (try dsimp only at hSw); go_simp) <;> with_reducible rfl
  try simp only [Act.put, List.setIfInBounds_toArray, List.set_cons_zero, List.set_cons_succ]
  refine wpAnyH_take (i := 9) (oi := { dst := some 122, op := Go.Op.move (Go.Operand.tmp 117), type := 83, pos := "perform.go:45", after := #[{ on := 4, ground := Go.Ground.data }, { on := 8, ground := Go.Ground.data }], guard := none }) (v := ?v9) rfl (by kernel_rfl) (by kernel_rfl) (by kernel_rfl) (fun _ _ _ h => h) (Or.inl ⟨by rfl, ?y9⟩) (by assumption) ?z9
  case y9 => (intro w hSw; (try dsimp only at hSw); go_simp) <;> with_reducible rfl
  try simp only [Act.put, List.setIfInBounds_toArray, List.set_cons_zero, List.set_cons_succ]
  refine wpAnyH_ready (rs := [7]) (by kernel_rfl) (by simp) ?_
  refine (AllReadyH.cons (o := { dst := some 120, op := Go.Op.call { callee := Go.Callee.value (Go.Operand.func 81), args := #[Go.Operand.tmp 118, Go.Operand.tmp 119], argTypes := #[94, 44] }, type := 22, pos := "perform.go:45", after := #[{ on := 5, ground := Go.Ground.data }, { on := 6, ground := Go.Ground.data }], guard := none }) rfl (fun K hK => ?_) AllReadyH.nil)
  · skip
    go_simp
    go_wp2_with (go_at_call 81; (with_reducible refine (addr_36 S0.out (by omega) x z s nn).mono ?_); rintro e w1 ⟨rfl, v1, s', m'⟩)
    have HO' := Lib.hid (m'.has HO.out NO.out)
    have NO' := Lib.hid (m'.far HO.out.1 NO.out)
    clear HO NO
    have HO := HO'
    have NO := NO'
    clear HO' NO'
    refine hK.out _ _ ?s10 (fun hNew => ?r10)
    case s10 => exact ⟨HO.out.2.1, s'.cp.1 14, trivial⟩
    clear hK K hHeld
    have hHeld := hNew
    clear hNew
    have M1 := Lib.hid (M0.out.trans m')
    obtain ⟨y1, hy⟩ : ∃ q_, q_ = y := ⟨_, rfl⟩
    rw [← hy] at s'
    have Y1 := Lib.hid hy
    have S1 := Lib.hid s'
    clear s' m' hy
    refine wpAnyH_ready (rs := [10]) (by kernel_rfl) (by simp) ?_
    refine (AllReadyH.cons (o := { dst := some 123, op := Go.Op.call { callee := Go.Callee.invoke (Go.Operand.tmp 122) "Read", args := #[Go.Operand.tmp 120], argTypes := #[22] }, type := 5, pos := "perform.go:45", after := #[{ on := 9, ground := Go.Ground.data }, { on := 7, ground := Go.Ground.data }, { on := 7, ground := Go.Ground.chain }], guard := none }) rfl (fun K hK => ?_) AllReadyH.nil)
    · skip
      go_simp
      go_wp2_with (go_at_call 176; (with_reducible refine (read_p S1.out (by omega) _ (cb).1 (cb).2).mono ?_); rintro e w2 ⟨rfl, v2, s', m'⟩)
      have HO' := Lib.hid (m'.has HO.out NO.out)
      have NO' := Lib.hid (m'.far HO.out.1 NO.out)
      clear HO NO
      have HO := HO'
      have NO := NO'
      clear HO' NO'
      refine hK.out _ _ ?s11 (fun hNew => ?r11)
      case s11 => exact ⟨HO.out.2.1, s'.cp.1 14, trivial⟩
      clear hK K hHeld
      have hHeld := hNew
      clear hNew
      have M2 := Lib.hid (M1.out.trans m')
      obtain ⟨y2, hy⟩ : ∃ q_, q_ = rd 1 (65280 + y.s.r.c) y1 := ⟨_, rfl⟩
      rw [← hy] at s'
      have Y2 := Lib.hid hy
      have S2 := Lib.hid s'
      clear s' m' hy
      refine wpAnyH_take (i := 11) (oi := { dst := some 124, op := Go.Op.nilCheck (Go.Operand.tmp 113), type := 0, pos := "perform.go:45", after := #[{ on := 0, ground := Go.Ground.data }, { on := 0, ground := Go.Ground.phase }, { on := 1, ground := Go.Ground.phase }, { on := 2, ground := Go.Ground.phase }, { on := 3, ground := Go.Ground.phase }, { on := 4, ground := Go.Ground.phase }, { on := 5, ground := Go.Ground.phase }, { on := 6, ground := Go.Ground.phase }, { on := 7, ground := Go.Ground.phase }, { on := 8, ground := Go.Ground.phase }, { on := 9, ground := Go.Ground.phase }, { on := 10, ground := Go.Ground.phase }], guard := none }) (v := ?v12) rfl (by kernel_rfl) (by kernel_rfl) (by kernel_rfl) (fun _ _ _ h => h) (Or.inl ⟨by rfl, ?y12⟩) (by assumption) ?z12
      case y12 => (intro w hSw; (try dsimp only at hSw); go_simp) <;> with_reducible rfl
      try simp only [Act.put, List.setIfInBounds_toArray, List.set_cons_zero, List.set_cons_succ]
      refine wpAnyH_take (i := 12) (oi := { dst := some 125, op := Go.Op.fieldAddr 85 (Go.Operand.tmp 124) 0, type := 0, pos := "perform.go:45", after := #[{ on := 11, ground := Go.Ground.data }, { on := 0, ground := Go.Ground.phase }, { on := 1, ground := Go.Ground.phase }, { on := 2, ground := Go.Ground.phase }, { on := 3, ground := Go.Ground.phase }, { on := 4, ground := Go.Ground.phase }, { on := 5, ground := Go.Ground.phase }, { on := 6, ground := Go.Ground.phase }, { on := 7, ground := Go.Ground.phase }, { on := 8, ground := Go.Ground.phase }, { on := 9, ground := Go.Ground.phase }, { on := 10, ground := Go.Ground.phase }], guard := none }) (v := ?v13) rfl (by kernel_rfl) (by kernel_rfl) (by kernel_rfl) (fun _ _ _ h => h) (Or.inl ⟨by rfl, ?y13⟩) (by assumption) ?z13
      case y13 => (intro w hSw; (try dsimp only at hSw); go_simp) <;> with_reducible rfl
      try simp only [Act.put, List.setIfInBounds_toArray, List.set_cons_zero, List.set_cons_succ]
      refine wpAnyH_take (i := 13) (oi := { dst := some 126, op := Go.Op.fieldAddr 41 (Go.Operand.tmp 125) 0, type := 0, pos := "perform.go:45", after := #[{ on := 12, ground := Go.Ground.data }, { on := 0, ground := Go.Ground.phase }, { on := 1, ground := Go.Ground.phase }, { on := 2, ground := Go.Ground.phase }, { on := 3, ground := Go.Ground.phase }, { on := 4, ground := Go.Ground.phase }, { on := 5, ground := Go.Ground.phase }, { on := 6, ground := Go.Ground.phase }, { on := 7, ground := Go.Ground.phase }, { on := 8, ground := Go.Ground.phase }, { on := 9, ground := Go.Ground.phase }, { on := 10, ground := Go.Ground.phase }], guard := none }) (v := ?v14) rfl (by kernel_rfl) (by kernel_rfl) (by kernel_rfl) (fun _ _ _ h => h) (Or.inl ⟨by rfl, ?y14⟩) (by assumption) ?z14
      case y14 => (intro w hSw; (try dsimp only at hSw); go_simp) <;> with_reducible rfl
      try simp only [Act.put, List.setIfInBounds_toArray, List.set_cons_zero, List.set_cons_succ]
      refine wpAnyH_take (i := 14) (oi := { dst := some 127, op := Go.Op.fieldAddr 39 (Go.Operand.tmp 126) 0, type := 0, pos := "perform.go:45", after := #[{ on := 13, ground := Go.Ground.data }, { on := 0, ground := Go.Ground.phase }, { on := 1, ground := Go.Ground.phase }, { on := 2, ground := Go.Ground.phase }, { on := 3, ground := Go.Ground.phase }, { on := 4, ground := Go.Ground.phase }, { on := 5, ground := Go.Ground.phase }, { on := 6, ground := Go.Ground.phase }, { on := 7, ground := Go.Ground.phase }, { on := 8, ground := Go.Ground.phase }, { on := 9, ground := Go.Ground.phase }, { on := 10, ground := Go.Ground.phase }], guard := none }) (v := ?v15) rfl (by kernel_rfl) (by kernel_rfl) (by kernel_rfl) (fun _ _ _ h => h) (Or.inl ⟨by rfl, ?y15⟩) (by assumption) ?z15
      case y15 => (intro w hSw; (try dsimp only at hSw); go_simp) <;> with_reducible rfl
      try simp only [Act.put, List.setIfInBounds_toArray, List.set_cons_zero, List.set_cons_succ]
      refine wpAnyH_ready (rs := [15]) (by kernel_rfl) (by simp) ?_
      refine (AllReadyH.cons (o := { dst := none, op := Go.Op.store 5 (Go.Operand.tmp 127) (Go.Operand.tmp 123), type := 0, pos := "perform.go:45", after := #[{ on := 14, ground := Go.Ground.data }, { on := 10, ground := Go.Ground.data }, { on := 10, ground := Go.Ground.chain }, { on := 0, ground := Go.Ground.phase }, { on := 1, ground := Go.Ground.phase }, { on := 2, ground := Go.Ground.phase }, { on := 3, ground := Go.Ground.phase }, { on := 4, ground := Go.Ground.phase }, { on := 5, ground := Go.Ground.phase }, { on := 6, ground := Go.Ground.phase }, { on := 7, ground := Go.Ground.phase }, { on := 8, ground := Go.Ground.phase }, { on := 9, ground := Go.Ground.phase }, { on := 10, ground := Go.Ground.phase }], guard := none }) rfl (fun K hK => ?_) AllReadyH.nil)
      · skip
        obtain ⟨hc, hf⟩ := S2.out.cp
        go_simp
        clear hc hf
        have q := S2.out.stA (y1.m (65280 + y.s.r.c)) (S1.out.okm _).1 (S1.out.okm _).2
        have s' := q.1
        have m' := q.2
        clear q
        have HO' := Lib.hid (m'.has HO.out NO.out)
        have NO' := Lib.hid (m'.far HO.out.1 NO.out)
        clear HO NO
        have HO := HO'
        have NO := NO'
        clear HO' NO'
        refine hK.out _ _ ?s16 (fun hNew => ?r16)
        case s16 => exact ⟨HO.out.2.1, s'.cp.1 14, trivial⟩
        clear hK K hHeld
        have hHeld := hNew
        clear hNew
        generalize World.setCell w2 ⟨P, 0, none⟩ (.int .u8 (y1.m (65280 + y.s.r.c))) = w3 at hHeld s' m' HO ⊢
        have M3 := Lib.hid (M2.out.trans m')
        obtain ⟨y3, hy⟩ : ∃ q_, q_ = setA (y1.m (65280 + y.s.r.c)) y2 := ⟨_, rfl⟩
        rw [← hy] at s'
        have Y3 := Lib.hid hy
        have S3 := Lib.hid s'
        clear s' m' hy
        refine wpAnyH_done (by kernel_rfl) ?_ _
        obtain ⟨hc, hf⟩ := S3.out.cp
        have ho := HO.out.2.1
        go_wp2
        first | go_end0 | refine bodyPost_ret (results_none rfl _ _ _) rfl ?_
        refine ⟨rfl, v2, ?_, M3.out⟩
        have q := S3.out
        have e := Y3.out.symm
        subst e
        have e := Y2.out.symm
        subst e
        have e := Y1.out.symm
        subst e
        exact Sys.mono (n' := n + 1) q (by omega)
set_option maxHeartbeats 2000000 in
theorem perf_38 (h0 : Sys procD ramC w P R M tb v y n) (hn : n < 950000) (x z s nn : Int) (n0 : 0 ≤ nn) (n1 : nn < 65536) (t : Bool) : Calls Tryz.prog 55 #[.pointer (some ⟨P, 0, none⟩), .agg #[.int .i64 38, .int .i64 x, .int .i64 z, .int .i64 s, .int .u16 nn], .bool t] w (PE procD ramC P R M tb v w (.tuple #[]) (setA (y.m nn) (rd 1 nn y)) (n + 1)) := by
  have hm := mR ⟨R, 0, none⟩
  have nb := And.intro n0 n1
  have S0 := Lib.hid (h0.below (own1 w (.cells #[.int .i64 38, .int .i64 x, .int .i64 z, .int .i64 s, .int .u16 nn] 44)))
  have M0 := Lib.hid (show PM P R M tb v w v (w.alloc (.cells #[.int .i64 38, .int .i64 x, .int .i64 z, .int .i64 s, .int .u16 nn] 44)) from PM.of (own1 w (.cells #[.int .i64 38, .int .i64 x, .int .i64 z, .int .i64 s, .int .u16 nn] 44)))
  have HO := Lib.hid (Has.new w #[.int .i64 38, .int .i64 x, .int .i64 z, .int .i64 s, .int .u16 nn] 44)
  have NO := Lib.hid (h0.new (Nat.le_refl w.heap.size))
  obtain ⟨hc, hf⟩ := S0.out.cp
  clear h0
  go_enter Tryz.func55, Tryz.ntmps55
  go_wp2
  generalize w.alloc (.cells #[.int .i64 38, .int .i64 x, .int .i64 z, .int .i64 s, .int .u16 nn] 44) = w0 at S0 M0 HO hc hf ⊢
  generalize w.heap.size = ob at HO NO ⊢
  have ho := HO.out.2.1
  have S0' := Lib.hid S0.out.drew
  have M0' := Lib.hid (M0.out.trans (PM.drew P R M tb v w0))
  have HO' := Lib.hid HO.out.drew
  clear ho HO
  have HO := HO'
  clear HO'
  clear hc hf
  refine wp_region_held_drew (S := (fun w' => (∀ j, w'.cell? ⟨ob, j, none⟩ = #[Value.int .i64 38, .int .i64 x, .int .i64 z, .int .i64 s, .int .u16 nn][j]?) ∧ (w'.cell? ⟨P, 14, none⟩ = some (.iface 31 (.pointer (some ⟨R, 0, none⟩)))) ∧ True)) (by kernel_rfl) ⟨HO.out.2.1, S0'.out.cp.1 14, trivial⟩ (fun hHeld => ?_)
  generalize World.drew w0 = u0 at hHeld S0' M0' HO ⊢
  clear S0 M0
  have S0 := S0'
  have M0 := M0'
  clear S0' M0'
  refine wpAnyH_take (i := 0) (oi := { dst := some 113, op := Go.Op.move (Go.Operand.tmp 0), type := 94, pos := "perform.go:45", after := #[], guard := none }) (v := ?v1) rfl (by kernel_rfl) (by kernel_rfl) (by kernel_rfl) (fun _ _ _ h => h) (Or.inl ⟨by rfl, ?y1⟩) (by assumption) ?z1
  case y1 => (intro w hSw; (try dsimp only at hSw); go_simp) <;> with_reducible rfl
  try simp only [Act.put, List.setIfInBounds_toArray, List.set_cons_zero, List.set_cons_succ]
  refine wpAnyH_take (i := 1) (oi := { dst := some 114, op := Go.Op.move (Go.Operand.tmp 0), type := 94, pos := "perform.go:45", after := #[], guard := none }) (v := ?v2) rfl (by kernel_rfl) (by kernel_rfl) (by kernel_rfl) (fun _ _ _ h => h) (Or.inl ⟨by rfl, ?y2⟩) (by assumption) ?z2
  case y2 => (intro w hSw; (try dsimp only at hSw); go_simp) <;> with_reducible rfl
  try simp only [Act.put, List.setIfInBounds_toArray, List.set_cons_zero, List.set_cons_succ]
  refine wpAnyH_take (i := 2) (oi := { dst := some 115, op := Go.Op.nilCheck (Go.Operand.tmp 114), type := 0, pos := "perform.go:45", after := #[{ on := 1, ground := Go.Ground.data }], guard := none }) (v := ?v3) rfl (by kernel_rfl) (by kernel_rfl) (by kernel_rfl) (fun _ _ _ h => h) (Or.inl ⟨by rfl, ?y3⟩) (by assumption) ?z3
  case y3 => (intro w hSw; (try dsimp only at hSw); go_simp) <;> with_reducible rfl
  try simp only [Act.put, List.setIfInBounds_toArray, List.set_cons_zero, List.set_cons_succ]
  refine wpAnyH_take (i := 3) (oi := { dst := some 116, op := Go.Op.fieldAddr 85 (Go.Operand.tmp 115) 1, type := 0, pos := "perform.go:45", after := #[{ on := 2, ground := Go.Ground.data }], guard := none }) (v := ?v4) rfl (by kernel_rfl) (by kernel_rfl) (by kernel_rfl) (fun _ _ _ h => h) (Or.inl ⟨by rfl, ?y4⟩) (by assumption) ?z4
  case y4 => (intro w hSw; (try dsimp only at hSw); go_simp) <;> with_reducible rfl
  try simp only [Act.put, List.setIfInBounds_toArray, List.set_cons_zero, List.set_cons_succ]
  refine wpAnyH_take (i := 4) (oi := { dst := some 117, op := Go.Op.load 83 (Go.Operand.tmp 116), type := 83, pos := "perform.go:45", after := #[{ on := 3, ground := Go.Ground.data }], guard := none }) (v := ?v5) rfl (by kernel_rfl) (by kernel_rfl) (by kernel_rfl) (fun _ _ _ h => h) (Or.inl ⟨by rfl, ?y5⟩) (by assumption) ?z5
  case y5 => (intro w hSw; (try dsimp only at hSw); go_simp) <;> with_reducible rfl
  try simp only [Act.put, List.setIfInBounds_toArray, List.set_cons_zero, List.set_cons_succ]
  refine wpAnyH_take (i := 5) (oi := { dst := some 118, op := Go.Op.move (Go.Operand.tmp 0), type := 94, pos := "perform.go:45", after := #[], guard := none }) (v := ?v6) rfl (by kernel_rfl) (by kernel_rfl) (by kernel_rfl) (fun _ _ _ h => h) (Or.inl ⟨by rfl, ?y6⟩) (by assumption) ?z6
  case y6 => (intro w hSw; (try dsimp only at hSw); go_simp) <;> with_reducible rfl
  try simp only [Act.put, List.setIfInBounds_toArray, List.set_cons_zero, List.set_cons_succ]
  refine wpAnyH_take (i := 6) (oi := { dst := some 119, op := Go.Op.load 44 (Go.Operand.tmp 4), type := 44, pos := "perform.go:45", after := #[], guard := none }) (v := ?v7) rfl (by kernel_rfl) (by kernel_rfl) (by kernel_rfl) (fun _ _ _ h => h) (Or.inl ⟨by rfl, ?y7⟩) (by assumption) ?z7
  case y7 => (intro w hSw; (try dsimp only at hSw); go_simp) <;> with_reducible rfl
  try simp only [Act.put, List.setIfInBounds_toArray, List.set_cons_zero, List.set_cons_succ]
  refine wpAnyH_take (i := 8) (oi := { dst := some 121, op := Go.Op.nilCheck (Go.Operand.tmp 117), type := 83, pos := "perform.go:45", after := #[{ on := 4, ground := Go.Ground.data }], guard := none }) (v := ?v8) rfl (by kernel_rfl) (by kernel_rfl) (by kernel_rfl) (fun _ _ _ h => h) (Or.inl ⟨by rfl, ?y8⟩) (by assumption) ?z8
  case y8 => (intro w hSw; (try dsimp only at hSw); go_simp) <;> with_reducible rfl
  try simp only [Act.put, List.setIfInBounds_toArray, List.set_cons_zero, List.set_cons_succ]
  refine wpAnyH_take (i := 9) (oi := { dst := some 122, op := Go.Op.move (Go.Operand.tmp 117), type := 83, pos := "perform.go:45", after := #[{ on := 4, ground := Go.Ground.data }, { on := 8, ground := Go.Ground.data }], guard := none }) (v := ?v9) rfl (by kernel_rfl) (by kernel_rfl) (by kernel_rfl) (fun _ _ _ h => h) (Or.inl ⟨by rfl, ?y9⟩) (by assumption) ?z9
  case y9 => (intro w hSw; (try dsimp only at hSw); go_simp) <;> with_reducible rfl
  try simp only [Act.put, List.setIfInBounds_toArray, List.set_cons_zero, List.set_cons_succ]
  refine wpAnyH_ready (rs := [7]) (by kernel_rfl) (by simp) ?_
  refine (AllReadyH.cons (o := { dst := some 120, op := Go.Op.call { callee := Go.Callee.value (Go.Operand.func 81), args := #[Go.Operand.tmp 118, Go.Operand.tmp 119], argTypes := #[94, 44] }, type := 22, pos := "perform.go:45", after := #[{ on := 5, ground := Go.Ground.data }, { on := 6, ground := Go.Ground.data }], guard := none }) rfl (fun K hK => ?_) AllReadyH.nil)
  · skip
    go_simp
    go_wp2_with (go_at_call 81; (with_reducible refine (addr_38 S0.out (by omega) x z s nn).mono ?_); rintro e w1 ⟨rfl, v1, s', m'⟩)
    have HO' := Lib.hid (m'.has HO.out NO.out)
    have NO' := Lib.hid (m'.far HO.out.1 NO.out)
    clear HO NO
    have HO := HO'
    have NO := NO'
    clear HO' NO'
    refine hK.out _ _ ?s10 (fun hNew => ?r10)
    case s10 => exact ⟨HO.out.2.1, s'.cp.1 14, trivial⟩
    clear hK K hHeld
    have hHeld := hNew
    clear hNew
    have M1 := Lib.hid (M0.out.trans m')
    obtain ⟨y1, hy⟩ : ∃ q_, q_ = y := ⟨_, rfl⟩
    rw [← hy] at s'
    have Y1 := Lib.hid hy
    have S1 := Lib.hid s'
    clear s' m' hy
    refine wpAnyH_ready (rs := [10]) (by kernel_rfl) (by simp) ?_
    refine (AllReadyH.cons (o := { dst := some 123, op := Go.Op.call { callee := Go.Callee.invoke (Go.Operand.tmp 122) "Read", args := #[Go.Operand.tmp 120], argTypes := #[22] }, type := 5, pos := "perform.go:45", after := #[{ on := 9, ground := Go.Ground.data }, { on := 7, ground := Go.Ground.data }, { on := 7, ground := Go.Ground.chain }], guard := none }) rfl (fun K hK => ?_) AllReadyH.nil)
    · skip
      go_simp
      go_wp2_with (go_at_call 176; (with_reducible refine (read_p S1.out (by omega) _ (nb).1 (nb).2).mono ?_); rintro e w2 ⟨rfl, v2, s', m'⟩)
      have HO' := Lib.hid (m'.has HO.out NO.out)
      have NO' := Lib.hid (m'.far HO.out.1 NO.out)
      clear HO NO
      have HO := HO'
      have NO := NO'
      clear HO' NO'
      refine hK.out _ _ ?s11 (fun hNew => ?r11)
      case s11 => exact ⟨HO.out.2.1, s'.cp.1 14, trivial⟩
      clear hK K hHeld
      have hHeld := hNew
      clear hNew
      have M2 := Lib.hid (M1.out.trans m')
      obtain ⟨y2, hy⟩ : ∃ q_, q_ = rd 1 (nn) y1 := ⟨_, rfl⟩
      rw [← hy] at s'
      have Y2 := Lib.hid hy
      have S2 := Lib.hid s'
      clear s' m' hy
      refine wpAnyH_take (i := 11) (oi := { dst := some 124, op := Go.Op.nilCheck (Go.Operand.tmp 113), type := 0, pos := "perform.go:45", after := #[{ on := 0, ground := Go.Ground.data }, { on := 0, ground := Go.Ground.phase }, { on := 1, ground := Go.Ground.phase }, { on := 2, ground := Go.Ground.phase }, { on := 3, ground := Go.Ground.phase }, { on := 4, ground := Go.Ground.phase }, { on := 5, ground := Go.Ground.phase }, { on := 6, ground := Go.Ground.phase }, { on := 7, ground := Go.Ground.phase }, { on := 8, ground := Go.Ground.phase }, { on := 9, ground := Go.Ground.phase }, { on := 10, ground := Go.Ground.phase }], guard := none }) (v := ?v12) rfl (by kernel_rfl) (by kernel_rfl) (by kernel_rfl) (fun _ _ _ h => h) (Or.inl ⟨by rfl, ?y12⟩) (by assumption) ?z12
      case y12 => (intro w hSw; (try dsimp only at hSw); go_simp) <;> with_reducible rfl
      try simp only [Act.put, List.setIfInBounds_toArray, List.set_cons_zero, List.set_cons_succ]
      refine wpAnyH_take (i := 12) (oi := { dst := some 125, op := Go.Op.fieldAddr 85 (Go.Operand.tmp 124) 0, type := 0, pos := "perform.go:45", after := #[{ on := 11, ground := Go.Ground.data }, { on := 0, ground := Go.Ground.phase }, { on := 1, ground := Go.Ground.phase }, { on := 2, ground := Go.Ground.phase }, { on := 3, ground := Go.Ground.phase }, { on := 4, ground := Go.Ground.phase }, { on := 5, ground := Go.Ground.phase }, { on := 6, ground := Go.Ground.phase }, { on := 7, ground := Go.Ground.phase }, { on := 8, ground := Go.Ground.phase }, { on := 9, ground := Go.Ground.phase }, { on := 10, ground := Go.Ground.phase }], guard := none }) (v := ?v13) rfl (by kernel_rfl) (by kernel_rfl) (by kernel_rfl) (fun _ _ _ h => h) (Or.inl ⟨by rfl, ?y13⟩) (by assumption) ?z13
      case y13 => (intro w hSw; (try dsimp only at hSw); go_simp) <;> with_reducible rfl
      try simp only [Act.put, List.setIfInBounds_toArray, List.set_cons_zero, List.set_cons_succ]
      refine wpAnyH_take (i := 13) (oi := { dst := some 126, op := Go.Op.fieldAddr 41 (Go.Operand.tmp 125) 0, type := 0, pos := "perform.go:45", after := #[{ on := 12, ground := Go.Ground.data }, { on := 0, ground := Go.Ground.phase }, { on := 1, ground := Go.Ground.phase }, { on := 2, ground := Go.Ground.phase }, { on := 3, ground := Go.Ground.phase }, { on := 4, ground := Go.Ground.phase }, { on := 5, ground := Go.Ground.phase }, { on := 6, ground := Go.Ground.phase }, { on := 7, ground := Go.Ground.phase }, { on := 8, ground := Go.Ground.phase }, { on := 9, ground := Go.Ground.phase }, { on := 10, ground := Go.Ground.phase }], guard := none }) (v := ?v14) rfl (by kernel_rfl) (by kernel_rfl) (by kernel_rfl) (fun _ _ _ h => h) (Or.inl ⟨by rfl, ?y14⟩) (by assumption) ?z14
      case y14 => (intro w hSw; (try dsimp only at hSw); go_simp) <;> with_reducible rfl
      try simp only [Act.put, List.setIfInBounds_toArray, List.set_cons_zero, List.set_cons_succ]
      refine wpAnyH_take (i := 14) (oi := { dst := some 127, op := Go.Op.fieldAddr 39 (Go.Operand.tmp 126) 0, type := 0, pos := "perform.go:45", after := #[{ on := 13, ground := Go.Ground.data }, { on := 0, ground := Go.Ground.phase }, { on := 1, ground := Go.Ground.phase }, { on := 2, ground := Go.Ground.phase }, { on := 3, ground := Go.Ground.phase }, { on := 4, ground := Go.Ground.phase }, { on := 5, ground := Go.Ground.phase }, { on := 6, ground := Go.Ground.phase }, { on := 7, ground := Go.Ground.phase }, { on := 8, ground := Go.Ground.phase }, { on := 9, ground := Go.Ground.phase }, { on := 10, ground := Go.Ground.phase }], guard := none }) (v := ?v15) rfl (by kernel_rfl) (by kernel_rfl) (by kernel_rfl) (fun _ _ _ h => h) (Or.inl ⟨by rfl, ?y15⟩) (by assumption) ?z15
      case y15 => (intro w hSw; (try dsimp only at hSw); go_simp) <;> with_reducible rfl
      try simp only [Act.put, List.setIfInBounds_toArray, List.set_cons_zero, List.set_cons_succ]
      refine wpAnyH_ready (rs := [15]) (by kernel_rfl) (by simp) ?_
      refine (AllReadyH.cons (o := { dst := none, op := Go.Op.store 5 (Go.Operand.tmp 127) (Go.Operand.tmp 123), type := 0, pos := "perform.go:45", after := #[{ on := 14, ground := Go.Ground.data }, { on := 10, ground := Go.Ground.data }, { on := 10, ground := Go.Ground.chain }, { on := 0, ground := Go.Ground.phase }, { on := 1, ground := Go.Ground.phase }, { on := 2, ground := Go.Ground.phase }, { on := 3, ground := Go.Ground.phase }, { on := 4, ground := Go.Ground.phase }, { on := 5, ground := Go.Ground.phase }, { on := 6, ground := Go.Ground.phase }, { on := 7, ground := Go.Ground.phase }, { on := 8, ground := Go.Ground.phase }, { on := 9, ground := Go.Ground.phase }, { on := 10, ground := Go.Ground.phase }], guard := none }) rfl (fun K hK => ?_) AllReadyH.nil)
      · skip
        obtain ⟨hc, hf⟩ := S2.out.cp
        go_simp
        clear hc hf
        have q := S2.out.stA (y1.m (nn)) (S1.out.okm _).1 (S1.out.okm _).2
        have s' := q.1
        have m' := q.2
        clear q
        have HO' := Lib.hid (m'.has HO.out NO.out)
        have NO' := Lib.hid (m'.far HO.out.1 NO.out)
        clear HO NO
        have HO := HO'
        have NO := NO'
        clear HO' NO'
        refine hK.out _ _ ?s16 (fun hNew => ?r16)
        case s16 => exact ⟨HO.out.2.1, s'.cp.1 14, trivial⟩
        clear hK K hHeld
        have hHeld := hNew
        clear hNew
        generalize World.setCell w2 ⟨P, 0, none⟩ (.int .u8 (y1.m (nn))) = w3 at hHeld s' m' HO ⊢
        have M3 := Lib.hid (M2.out.trans m')
        obtain ⟨y3, hy⟩ : ∃ q_, q_ = setA (y1.m (nn)) y2 := ⟨_, rfl⟩
        rw [← hy] at s'
        have Y3 := Lib.hid hy
        have S3 := Lib.hid s'
        clear s' m' hy
        refine wpAnyH_done (by kernel_rfl) ?_ _
        obtain ⟨hc, hf⟩ := S3.out.cp
        have ho := HO.out.2.1
        go_wp2
        first | go_end0 | refine bodyPost_ret (results_none rfl _ _ _) rfl ?_
        refine ⟨rfl, v2, ?_, M3.out⟩
        have q := S3.out
        have e := Y3.out.symm
        subst e
        have e := Y2.out.symm
        subst e
        have e := Y1.out.symm
        subst e
        exact Sys.mono (n' := n + 1) q (by omega)
set_option maxHeartbeats 2000000 in
theorem perf_33 (h0 : Sys procD ramC w P R M tb v y n) (hn : n < 950000) (x z s nn : Int) (t : Bool) : Calls Tryz.prog 55 #[.pointer (some ⟨P, 0, none⟩), .agg #[.int .i64 33, .int .i64 x, .int .i64 z, .int .i64 s, .int .u16 nn], .bool t] w (PE procD ramC P R M tb v w (.tuple #[]) (wr (thruV x y) y.s.r.a (thruS x y)) (n + 1)) := by
  have hm := mW ⟨R, 0, none⟩
  have ab := h0.ab
  have S0 := Lib.hid (h0.below (own1 w (.cells #[.int .i64 33, .int .i64 x, .int .i64 z, .int .i64 s, .int .u16 nn] 44)))
  have M0 := Lib.hid (show PM P R M tb v w v (w.alloc (.cells #[.int .i64 33, .int .i64 x, .int .i64 z, .int .i64 s, .int .u16 nn] 44)) from PM.of (own1 w (.cells #[.int .i64 33, .int .i64 x, .int .i64 z, .int .i64 s, .int .u16 nn] 44)))
  have HO := Lib.hid (Has.new w #[.int .i64 33, .int .i64 x, .int .i64 z, .int .i64 s, .int .u16 nn] 44)
  have NO := Lib.hid (h0.new (Nat.le_refl w.heap.size))
  obtain ⟨hc, hf⟩ := S0.out.cp
  clear h0
  go_enter Tryz.func55, Tryz.ntmps55
  go_wp2
  generalize w.alloc (.cells #[.int .i64 33, .int .i64 x, .int .i64 z, .int .i64 s, .int .u16 nn] 44) = w0 at S0 M0 HO hc hf ⊢
  generalize w.heap.size = ob at HO NO ⊢
  have ho := HO.out.2.1
  have S0' := Lib.hid S0.out.drew
  have M0' := Lib.hid (M0.out.trans (PM.drew P R M tb v w0))
  have HO' := Lib.hid HO.out.drew
  clear ho HO
  have HO := HO'
  clear HO'
  clear hc hf
  refine wp_region_held_drew (S := (fun w' => (∀ j, w'.cell? ⟨ob, j, none⟩ = #[Value.int .i64 33, .int .i64 x, .int .i64 z, .int .i64 s, .int .u16 nn][j]?) ∧ (w'.cell? ⟨P, 14, none⟩ = some (.iface 31 (.pointer (some ⟨R, 0, none⟩)))) ∧ (w'.cell? ⟨P, 0, none⟩ = some (.int .u8 y.s.r.a)) ∧ True)) (by kernel_rfl) ⟨HO.out.2.1, S0'.out.cp.1 14, S0'.out.cp.1 0, trivial⟩ (fun hHeld => ?_)
  generalize World.drew w0 = u0 at hHeld S0' M0' HO ⊢
  clear S0 M0
  have S0 := S0'
  have M0 := M0'
  clear S0' M0'
  refine wpAnyH_take (i := 0) (oi := { dst := some 133, op := Go.Op.move (Go.Operand.tmp 0), type := 94, pos := "perform.go:47", after := #[], guard := none }) (v := ?v1) rfl (by kernel_rfl) (by kernel_rfl) (by kernel_rfl) (fun _ _ _ h => h) (Or.inl ⟨by rfl, ?y1⟩) (by assumption) ?z1
  case y1 => (intro w hSw; (try dsimp only at hSw); go_simp) <;> with_reducible rfl
  try simp only [Act.put, List.setIfInBounds_toArray, List.set_cons_zero, List.set_cons_succ]
  refine wpAnyH_take (i := 1) (oi := { dst := some 134, op := Go.Op.nilCheck (Go.Operand.tmp 133), type := 0, pos := "perform.go:47", after := #[{ on := 0, ground := Go.Ground.data }], guard := none }) (v := ?v2) rfl (by kernel_rfl) (by kernel_rfl) (by kernel_rfl) (fun _ _ _ h => h) (Or.inl ⟨by rfl, ?y2⟩) (by assumption) ?z2
  case y2 => (intro w hSw; (try dsimp only at hSw); go_simp) <;> with_reducible rfl
  try simp only [Act.put, List.setIfInBounds_toArray, List.set_cons_zero, List.set_cons_succ]
  refine wpAnyH_take (i := 2) (oi := { dst := some 135, op := Go.Op.fieldAddr 85 (Go.Operand.tmp 134) 1, type := 0, pos := "perform.go:47", after := #[{ on := 1, ground := Go.Ground.data }], guard := none }) (v := ?v3) rfl (by kernel_rfl) (by kernel_rfl) (by kernel_rfl) (fun _ _ _ h => h) (Or.inl ⟨by rfl, ?y3⟩) (by assumption) ?z3
  case y3 => (intro w hSw; (try dsimp only at hSw); go_simp) <;> with_reducible rfl
  try simp only [Act.put, List.setIfInBounds_toArray, List.set_cons_zero, List.set_cons_succ]
  refine wpAnyH_take (i := 3) (oi := { dst := some 136, op := Go.Op.load 83 (Go.Operand.tmp 135), type := 83, pos := "perform.go:47", after := #[{ on := 2, ground := Go.Ground.data }], guard := none }) (v := ?v4) rfl (by kernel_rfl) (by kernel_rfl) (by kernel_rfl) (fun _ _ _ h => h) (Or.inl ⟨by rfl, ?y4⟩) (by assumption) ?z4
  case y4 => (intro w hSw; (try dsimp only at hSw); go_simp) <;> with_reducible rfl
  try simp only [Act.put, List.setIfInBounds_toArray, List.set_cons_zero, List.set_cons_succ]
  refine wpAnyH_take (i := 4) (oi := { dst := some 137, op := Go.Op.move (Go.Operand.tmp 0), type := 94, pos := "perform.go:47", after := #[], guard := none }) (v := ?v5) rfl (by kernel_rfl) (by kernel_rfl) (by kernel_rfl) (fun _ _ _ h => h) (Or.inl ⟨by rfl, ?y5⟩) (by assumption) ?z5
  case y5 => (intro w hSw; (try dsimp only at hSw); go_simp) <;> with_reducible rfl
  try simp only [Act.put, List.setIfInBounds_toArray, List.set_cons_zero, List.set_cons_succ]
  refine wpAnyH_take (i := 5) (oi := { dst := some 138, op := Go.Op.load 44 (Go.Operand.tmp 4), type := 44, pos := "perform.go:47", after := #[], guard := none }) (v := ?v6) rfl (by kernel_rfl) (by kernel_rfl) (by kernel_rfl) (fun _ _ _ h => h) (Or.inl ⟨by rfl, ?y6⟩) (by assumption) ?z6
  case y6 => (intro w hSw; (try dsimp only at hSw); go_simp) <;> with_reducible rfl
  try simp only [Act.put, List.setIfInBounds_toArray, List.set_cons_zero, List.set_cons_succ]
  refine wpAnyH_take (i := 7) (oi := { dst := some 140, op := Go.Op.move (Go.Operand.tmp 0), type := 94, pos := "perform.go:47", after := #[], guard := none }) (v := ?v7) rfl (by kernel_rfl) (by kernel_rfl) (by kernel_rfl) (fun _ _ _ h => h) (Or.inl ⟨by rfl, ?y7⟩) (by assumption) ?z7
  case y7 => (intro w hSw; (try dsimp only at hSw); go_simp) <;> with_reducible rfl
  try simp only [Act.put, List.setIfInBounds_toArray, List.set_cons_zero, List.set_cons_succ]
  refine wpAnyH_take (i := 8) (oi := { dst := some 141, op := Go.Op.nilCheck (Go.Operand.tmp 140), type := 0, pos := "perform.go:47", after := #[{ on := 7, ground := Go.Ground.data }], guard := none }) (v := ?v8) rfl (by kernel_rfl) (by kernel_rfl) (by kernel_rfl) (fun _ _ _ h => h) (Or.inl ⟨by rfl, ?y8⟩) (by assumption) ?z8
  case y8 => (intro w hSw; (try dsimp only at hSw); go_simp) <;> with_reducible rfl
  try simp only [Act.put, List.setIfInBounds_toArray, List.set_cons_zero, List.set_cons_succ]
  refine wpAnyH_take (i := 9) (oi := { dst := some 142, op := Go.Op.fieldAddr 85 (Go.Operand.tmp 141) 0, type := 0, pos := "perform.go:47", after := #[{ on := 8, ground := Go.Ground.data }], guard := none }) (v := ?v9) rfl (by kernel_rfl) (by kernel_rfl) (by kernel_rfl) (fun _ _ _ h => h) (Or.inl ⟨by rfl, ?y9⟩) (by assumption) ?z9
  case y9 => (intro w hSw; (try dsimp only at hSw); go_simp) <;> with_reducible rfl
  try simp only [Act.put, List.setIfInBounds_toArray, List.set_cons_zero, List.set_cons_succ]
  refine wpAnyH_take (i := 10) (oi := { dst := some 143, op := Go.Op.fieldAddr 41 (Go.Operand.tmp 142) 0, type := 0, pos := "perform.go:47", after := #[{ on := 9, ground := Go.Ground.data }], guard := none }) (v := ?v10) rfl (by kernel_rfl) (by kernel_rfl) (by kernel_rfl) (fun _ _ _ h => h) (Or.inl ⟨by rfl, ?y10⟩) (by assumption) ?z10
  case y10 => (intro w hSw; (try dsimp only at hSw); go_simp) <;> with_reducible rfl
  try simp only [Act.put, List.setIfInBounds_toArray, List.set_cons_zero, List.set_cons_succ]
  refine wpAnyH_take (i := 11) (oi := { dst := some 144, op := Go.Op.fieldAddr 39 (Go.Operand.tmp 143) 0, type := 0, pos := "perform.go:47", after := #[{ on := 10, ground := Go.Ground.data }], guard := none }) (v := ?v11) rfl (by kernel_rfl) (by kernel_rfl) (by kernel_rfl) (fun _ _ _ h => h) (Or.inl ⟨by rfl, ?y11⟩) (by assumption) ?z11
  case y11 => (intro w hSw; (try dsimp only at hSw); go_simp) <;> with_reducible rfl
  try simp only [Act.put, List.setIfInBounds_toArray, List.set_cons_zero, List.set_cons_succ]
  refine wpAnyH_take (i := 12) (oi := { dst := some 145, op := Go.Op.load 5 (Go.Operand.tmp 144), type := 5, pos := "perform.go:47", after := #[{ on := 11, ground := Go.Ground.data }], guard := none }) (v := ?v12) rfl (by kernel_rfl) (by kernel_rfl) (by kernel_rfl) (fun _ _ _ h => h) (Or.inl ⟨by rfl, ?y12⟩) (by assumption) ?z12
  case y12 => (intro w hSw; (try dsimp only at hSw); go_simp) <;> with_reducible rfl
  try simp only [Act.put, List.setIfInBounds_toArray, List.set_cons_zero, List.set_cons_succ]
  refine wpAnyH_take (i := 13) (oi := { dst := some 146, op := Go.Op.nilCheck (Go.Operand.tmp 136), type := 83, pos := "perform.go:47", after := #[{ on := 3, ground := Go.Ground.data }], guard := none }) (v := ?v13) rfl (by kernel_rfl) (by kernel_rfl) (by kernel_rfl) (fun _ _ _ h => h) (Or.inl ⟨by rfl, ?y13⟩) (by assumption) ?z13
  case y13 => (intro w hSw; (try dsimp only at hSw); go_simp) <;> with_reducible rfl
  try simp only [Act.put, List.setIfInBounds_toArray, List.set_cons_zero, List.set_cons_succ]
  refine wpAnyH_take (i := 14) (oi := { dst := some 147, op := Go.Op.move (Go.Operand.tmp 136), type := 83, pos := "perform.go:47", after := #[{ on := 3, ground := Go.Ground.data }, { on := 13, ground := Go.Ground.data }], guard := none }) (v := ?v14) rfl (by kernel_rfl) (by kernel_rfl) (by kernel_rfl) (fun _ _ _ h => h) (Or.inl ⟨by rfl, ?y14⟩) (by assumption) ?z14
  case y14 => (intro w hSw; (try dsimp only at hSw); go_simp) <;> with_reducible rfl
  try simp only [Act.put, List.setIfInBounds_toArray, List.set_cons_zero, List.set_cons_succ]
  refine wpAnyH_ready (rs := [6]) (by kernel_rfl) (by simp) ?_
  refine (AllReadyH.cons (o := { dst := some 139, op := Go.Op.call { callee := Go.Callee.value (Go.Operand.func 81), args := #[Go.Operand.tmp 137, Go.Operand.tmp 138], argTypes := #[94, 44] }, type := 22, pos := "perform.go:47", after := #[{ on := 4, ground := Go.Ground.data }, { on := 5, ground := Go.Ground.data }], guard := none }) rfl (fun K hK => ?_) AllReadyH.nil)
  · skip
    go_simp
    go_wp2_with (go_at_call 81; (with_reducible refine (addr_33 S0.out (by omega) x z s nn).mono ?_); rintro e w1 ⟨rfl, v1, s', m'⟩)
    have HO' := Lib.hid (m'.has HO.out NO.out)
    have NO' := Lib.hid (m'.far HO.out.1 NO.out)
    clear HO NO
    have HO := HO'
    have NO := NO'
    clear HO' NO'
    refine hK.out _ _ ?s15 (fun hNew => ?r15)
    case s15 => exact ⟨HO.out.2.1, s'.cp.1 14, (s'.cp.1 0).trans (by rw [thruS_a]; rfl), trivial⟩
    clear hK K hHeld
    have hHeld := hNew
    clear hNew
    have M1 := Lib.hid (M0.out.trans m')
    obtain ⟨y1, hy⟩ : ∃ q_, q_ = thruS x y := ⟨_, rfl⟩
    rw [← hy] at s'
    have Y1 := Lib.hid hy
    have S1 := Lib.hid s'
    clear s' m' hy
    refine wpAnyH_ready (rs := [15]) (by kernel_rfl) (by simp) ?_
    refine (AllReadyH.cons (o := { dst := some 148, op := Go.Op.call { callee := Go.Callee.invoke (Go.Operand.tmp 147) "Write", args := #[Go.Operand.tmp 139, Go.Operand.tmp 145], argTypes := #[22, 5] }, type := 0, pos := "perform.go:47", after := #[{ on := 14, ground := Go.Ground.data }, { on := 6, ground := Go.Ground.data }, { on := 12, ground := Go.Ground.data }, { on := 6, ground := Go.Ground.chain }], guard := none }) rfl (fun K hK => ?_) AllReadyH.nil)
    · skip
      go_simp
      go_wp2_with (go_at_call 177; (with_reducible refine (write_p S1.out (by omega) _ y.s.r.a (thruV_b S0.out x).1 (thruV_b S0.out x).2 ab.1 ab.2).mono ?_); rintro e w2 ⟨rfl, v2, s', m'⟩)
      have HO' := Lib.hid (m'.has HO.out NO.out)
      have NO' := Lib.hid (m'.far HO.out.1 NO.out)
      clear HO NO
      have HO := HO'
      have NO := NO'
      clear HO' NO'
      refine hK.out _ _ ?s16 (fun hNew => ?r16)
      case s16 => exact ⟨HO.out.2.1, s'.cp.1 14, (s'.cp.1 0).trans (by rw [show (wr (thruV x y) y.s.r.a y1).s = y1.s from rfl, Y1.out, thruS_a]; rfl), trivial⟩
      clear hK K hHeld
      have hHeld := hNew
      clear hNew
      have M2 := Lib.hid (M1.out.trans m')
      obtain ⟨y2, hy⟩ : ∃ q_, q_ = wr (thruV x y) y.s.r.a y1 := ⟨_, rfl⟩
      rw [← hy] at s'
      have Y2 := Lib.hid hy
      have S2 := Lib.hid s'
      clear s' m' hy
      refine wpAnyH_done (by kernel_rfl) ?_ _
      obtain ⟨hc, hf⟩ := S2.out.cp
      have ho := HO.out.2.1
      go_wp2
      first | go_end0 | refine bodyPost_ret (results_none rfl _ _ _) rfl ?_
      refine ⟨rfl, v2, ?_, M2.out⟩
      have q := S2.out
      have e := Y2.out.symm
      subst e
      have e := Y1.out.symm
      subst e
      exact Sys.mono (n' := n + 1) q (by omega)
set_option maxHeartbeats 2000000 in
theorem perf_35 (h0 : Sys procD ramC w P R M tb v y n) (hn : n < 950000) (x z s nn : Int) (n0 : 0 ≤ nn) (n1 : nn < 256) (t : Bool) : Calls Tryz.prog 55 #[.pointer (some ⟨P, 0, none⟩), .agg #[.int .i64 35, .int .i64 x, .int .i64 z, .int .i64 s, .int .u16 nn], .bool t] w (PE procD ramC P R M tb v w (.tuple #[]) (wr (65280 + nn) y.s.r.a y) (n + 1)) := by
  have hm := mW ⟨R, 0, none⟩
  have ab := h0.ab
  have nb : 0 ≤ 65280 + nn ∧ 65280 + nn < 65536 := by omega
  have S0 := Lib.hid (h0.below (own1 w (.cells #[.int .i64 35, .int .i64 x, .int .i64 z, .int .i64 s, .int .u16 nn] 44)))
  have M0 := Lib.hid (show PM P R M tb v w v (w.alloc (.cells #[.int .i64 35, .int .i64 x, .int .i64 z, .int .i64 s, .int .u16 nn] 44)) from PM.of (own1 w (.cells #[.int .i64 35, .int .i64 x, .int .i64 z, .int .i64 s, .int .u16 nn] 44)))
  have HO := Lib.hid (Has.new w #[.int .i64 35, .int .i64 x, .int .i64 z, .int .i64 s, .int .u16 nn] 44)
  have NO := Lib.hid (h0.new (Nat.le_refl w.heap.size))
  obtain ⟨hc, hf⟩ := S0.out.cp
  clear h0
  go_enter Tryz.func55, Tryz.ntmps55
  go_wp2
  generalize w.alloc (.cells #[.int .i64 35, .int .i64 x, .int .i64 z, .int .i64 s, .int .u16 nn] 44) = w0 at S0 M0 HO hc hf ⊢
  generalize w.heap.size = ob at HO NO ⊢
  have ho := HO.out.2.1
  have S0' := Lib.hid S0.out.drew
  have M0' := Lib.hid (M0.out.trans (PM.drew P R M tb v w0))
  have HO' := Lib.hid HO.out.drew
  clear ho HO
  have HO := HO'
  clear HO'
  clear hc hf
  refine wp_region_held_drew (S := (fun w' => (∀ j, w'.cell? ⟨ob, j, none⟩ = #[Value.int .i64 35, .int .i64 x, .int .i64 z, .int .i64 s, .int .u16 nn][j]?) ∧ (w'.cell? ⟨P, 14, none⟩ = some (.iface 31 (.pointer (some ⟨R, 0, none⟩)))) ∧ (w'.cell? ⟨P, 0, none⟩ = some (.int .u8 y.s.r.a)) ∧ True)) (by kernel_rfl) ⟨HO.out.2.1, S0'.out.cp.1 14, S0'.out.cp.1 0, trivial⟩ (fun hHeld => ?_)
  generalize World.drew w0 = u0 at hHeld S0' M0' HO ⊢
  clear S0 M0
  have S0 := S0'
  have M0 := M0'
  clear S0' M0'
  refine wpAnyH_take (i := 0) (oi := { dst := some 133, op := Go.Op.move (Go.Operand.tmp 0), type := 94, pos := "perform.go:47", after := #[], guard := none }) (v := ?v1) rfl (by kernel_rfl) (by kernel_rfl) (by kernel_rfl) (fun _ _ _ h => h) (Or.inl ⟨by rfl, ?y1⟩) (by assumption) ?z1
  case y1 => (intro w hSw; (try dsimp only at hSw); go_simp) <;> with_reducible rfl
  try simp only [Act.put, List.setIfInBounds_toArray, List.set_cons_zero, List.set_cons_succ]
  refine wpAnyH_take (i := 1) (oi := { dst := some 134, op := Go.Op.nilCheck (Go.Operand.tmp 133), type := 0, pos := "perform.go:47", after := #[{ on := 0, ground := Go.Ground.data }], guard := none }) (v := ?v2) rfl (by kernel_rfl) (by kernel_rfl) (by kernel_rfl) (fun _ _ _ h => h) (Or.inl ⟨by rfl, ?y2⟩) (by assumption) ?z2
  case y2 => (intro w hSw; (try dsimp only at hSw); go_simp) <;> with_reducible rfl
  try simp only [Act.put, List.setIfInBounds_toArray, List.set_cons_zero, List.set_cons_succ]
  refine wpAnyH_take (i := 2) (oi := { dst := some 135, op := Go.Op.fieldAddr 85 (Go.Operand.tmp 134) 1, type := 0, pos := "perform.go:47", after := #[{ on := 1, ground := Go.Ground.data }], guard := none }) (v := ?v3) rfl (by kernel_rfl) (by kernel_rfl) (by kernel_rfl) (fun _ _ _ h => h) (Or.inl ⟨by rfl, ?y3⟩) (by assumption) ?z3
  case y3 => (intro w hSw; (try dsimp only at hSw); go_simp) <;> with_reducible rfl
  try simp only [Act.put, List.setIfInBounds_toArray, List.set_cons_zero, List.set_cons_succ]
  refine wpAnyH_take (i := 3) (oi := { dst := some 136, op := Go.Op.load 83 (Go.Operand.tmp 135), type := 83, pos := "perform.go:47", after := #[{ on := 2, ground := Go.Ground.data }], guard := none }) (v := ?v4) rfl (by kernel_rfl) (by kernel_rfl) (by kernel_rfl) (fun _ _ _ h => h) (Or.inl ⟨by rfl, ?y4⟩) (by assumption) ?z4
  case y4 => (intro w hSw; (try dsimp only at hSw); go_simp) <;> with_reducible rfl
  try simp only [Act.put, List.setIfInBounds_toArray, List.set_cons_zero, List.set_cons_succ]
  refine wpAnyH_take (i := 4) (oi := { dst := some 137, op := Go.Op.move (Go.Operand.tmp 0), type := 94, pos := "perform.go:47", after := #[], guard := none }) (v := ?v5) rfl (by kernel_rfl) (by kernel_rfl) (by kernel_rfl) (fun _ _ _ h => h) (Or.inl ⟨by rfl, ?y5⟩) (by assumption) ?z5
  case y5 => (intro w hSw; (try dsimp only at hSw); go_simp) <;> with_reducible rfl
  try simp only [Act.put, List.setIfInBounds_toArray, List.set_cons_zero, List.set_cons_succ]
  refine wpAnyH_take (i := 5) (oi := { dst := some 138, op := Go.Op.load 44 (Go.Operand.tmp 4), type := 44, pos := "perform.go:47", after := #[], guard := none }) (v := ?v6) rfl (by kernel_rfl) (by kernel_rfl) (by kernel_rfl) (fun _ _ _ h => h) (Or.inl ⟨by rfl, ?y6⟩) (by assumption) ?z6
  case y6 => (intro w hSw; (try dsimp only at hSw); go_simp) <;> with_reducible rfl
  try simp only [Act.put, List.setIfInBounds_toArray, List.set_cons_zero, List.set_cons_succ]
  refine wpAnyH_take (i := 7) (oi := { dst := some 140, op := Go.Op.move (Go.Operand.tmp 0), type := 94, pos := "perform.go:47", after := #[], guard := none }) (v := ?v7) rfl (by kernel_rfl) (by kernel_rfl) (by kernel_rfl) (fun _ _ _ h => h) (Or.inl ⟨by rfl, ?y7⟩) (by assumption) ?z7
  case y7 => (intro w hSw; (try dsimp only at hSw); go_simp) <;> with_reducible rfl
  try simp only [Act.put, List.setIfInBounds_toArray, List.set_cons_zero, List.set_cons_succ]
  refine wpAnyH_take (i := 8) (oi := { dst := some 141, op := Go.Op.nilCheck (Go.Operand.tmp 140), type := 0, pos := "perform.go:47", after := #[{ on := 7, ground := Go.Ground.data }], guard := none }) (v := ?v8) rfl (by kernel_rfl) (by kernel_rfl) (by kernel_rfl) (fun _ _ _ h => h) (Or.inl ⟨by rfl, ?y8⟩) (by assumption) ?z8
  case y8 => (intro w hSw; (try dsimp only at hSw); go_simp) <;> with_reducible rfl
  try simp only [Act.put, List.setIfInBounds_toArray, List.set_cons_zero, List.set_cons_succ]
  refine wpAnyH_take (i := 9) (oi := { dst := some 142, op := Go.Op.fieldAddr 85 (Go.Operand.tmp 141) 0, type := 0, pos := "perform.go:47", after := #[{ on := 8, ground := Go.Ground.data }], guard := none }) (v := ?v9) rfl (by kernel_rfl) (by kernel_rfl) (by kernel_rfl) (fun _ _ _ h => h) (Or.inl ⟨by rfl, ?y9⟩) (by assumption) ?z9
  case y9 => (intro w hSw; (try dsimp only at hSw); go_simp) <;> with_reducible rfl
  try simp only [Act.put, List.setIfInBounds_toArray, List.set_cons_zero, List.set_cons_succ]
  refine wpAnyH_take (i := 10) (oi := { dst := some 143, op := Go.Op.fieldAddr 41 (Go.Operand.tmp 142) 0, type := 0, pos := "perform.go:47", after := #[{ on := 9, ground := Go.Ground.data }], guard := none }) (v := ?v10) rfl (by kernel_rfl) (by kernel_rfl) (by kernel_rfl) (fun _ _ _ h => h) (Or.inl ⟨by rfl, ?y10⟩) (by assumption) ?z10
  case y10 => (intro w hSw; (try dsimp only at hSw); go_simp) <;> with_reducible rfl
  try simp only [Act.put, List.setIfInBounds_toArray, List.set_cons_zero, List.set_cons_succ]
  refine wpAnyH_take (i := 11) (oi := { dst := some 144, op := Go.Op.fieldAddr 39 (Go.Operand.tmp 143) 0, type := 0, pos := "perform.go:47", after := #[{ on := 10, ground := Go.Ground.data }], guard := none }) (v := ?v11) rfl (by kernel_rfl) (by kernel_rfl) (by kernel_rfl) (fun _ _ _ h => h) (Or.inl ⟨by rfl, ?y11⟩) (by assumption) ?z11
  case y11 => (intro w hSw; (try dsimp only at hSw); go_simp) <;> with_reducible rfl
  try simp only [Act.put, List.setIfInBounds_toArray, List.set_cons_zero, List.set_cons_succ]
  refine wpAnyH_take (i := 12) (oi := { dst := some 145, op := Go.Op.load 5 (Go.Operand.tmp 144), type := 5, pos := "perform.go:47", after := #[{ on := 11, ground := Go.Ground.data }], guard := none }) (v := ?v12) rfl (by kernel_rfl) (by kernel_rfl) (by kernel_rfl) (fun _ _ _ h => h) (Or.inl ⟨by rfl, ?y12⟩) (by assumption) ?z12
  case y12 => (intro w hSw; (try dsimp only at hSw); go_simp) <;> with_reducible rfl
  try simp only [Act.put, List.setIfInBounds_toArray, List.set_cons_zero, List.set_cons_succ]
  refine wpAnyH_take (i := 13) (oi := { dst := some 146, op := Go.Op.nilCheck (Go.Operand.tmp 136), type := 83, pos := "perform.go:47", after := #[{ on := 3, ground := Go.Ground.data }], guard := none }) (v := ?v13) rfl (by kernel_rfl) (by kernel_rfl) (by kernel_rfl) (fun _ _ _ h => h) (Or.inl ⟨by rfl, ?y13⟩) (by assumption) ?z13
  case y13 => (intro w hSw; (try dsimp only at hSw); go_simp) <;> with_reducible rfl
  try simp only [Act.put, List.setIfInBounds_toArray, List.set_cons_zero, List.set_cons_succ]
  refine wpAnyH_take (i := 14) (oi := { dst := some 147, op := Go.Op.move (Go.Operand.tmp 136), type := 83, pos := "perform.go:47", after := #[{ on := 3, ground := Go.Ground.data }, { on := 13, ground := Go.Ground.data }], guard := none }) (v := ?v14) rfl (by kernel_rfl) (by kernel_rfl) (by kernel_rfl) (fun _ _ _ h => h) (Or.inl ⟨by rfl, ?y14⟩) (by assumption) ?z14
  case y14 => (intro w hSw; (try dsimp only at hSw); go_simp) <;> with_reducible rfl
  try simp only [Act.put, List.setIfInBounds_toArray, List.set_cons_zero, List.set_cons_succ]
  refine wpAnyH_ready (rs := [6]) (by kernel_rfl) (by simp) ?_
  refine (AllReadyH.cons (o := { dst := some 139, op := Go.Op.call { callee := Go.Callee.value (Go.Operand.func 81), args := #[Go.Operand.tmp 137, Go.Operand.tmp 138], argTypes := #[94, 44] }, type := 22, pos := "perform.go:47", after := #[{ on := 4, ground := Go.Ground.data }, { on := 5, ground := Go.Ground.data }], guard := none }) rfl (fun K hK => ?_) AllReadyH.nil)
  · skip
    go_simp
    go_wp2_with (go_at_call 81; (with_reducible refine (addr_35 S0.out (by omega) x z s nn n0 n1).mono ?_); rintro e w1 ⟨rfl, v1, s', m'⟩)
    have HO' := Lib.hid (m'.has HO.out NO.out)
    have NO' := Lib.hid (m'.far HO.out.1 NO.out)
    clear HO NO
    have HO := HO'
    have NO := NO'
    clear HO' NO'
    refine hK.out _ _ ?s15 (fun hNew => ?r15)
    case s15 => exact ⟨HO.out.2.1, s'.cp.1 14, s'.cp.1 0, trivial⟩
    clear hK K hHeld
    have hHeld := hNew
    clear hNew
    have M1 := Lib.hid (M0.out.trans m')
    obtain ⟨y1, hy⟩ : ∃ q_, q_ = y := ⟨_, rfl⟩
    rw [← hy] at s'
    have Y1 := Lib.hid hy
    have S1 := Lib.hid s'
    clear s' m' hy
    refine wpAnyH_ready (rs := [15]) (by kernel_rfl) (by simp) ?_
    refine (AllReadyH.cons (o := { dst := some 148, op := Go.Op.call { callee := Go.Callee.invoke (Go.Operand.tmp 147) "Write", args := #[Go.Operand.tmp 139, Go.Operand.tmp 145], argTypes := #[22, 5] }, type := 0, pos := "perform.go:47", after := #[{ on := 14, ground := Go.Ground.data }, { on := 6, ground := Go.Ground.data }, { on := 12, ground := Go.Ground.data }, { on := 6, ground := Go.Ground.chain }], guard := none }) rfl (fun K hK => ?_) AllReadyH.nil)
    · skip
      go_simp
      go_wp2_with (go_at_call 177; (with_reducible refine (write_p S1.out (by omega) _ y.s.r.a (nb).1 (nb).2 ab.1 ab.2).mono ?_); rintro e w2 ⟨rfl, v2, s', m'⟩)
      have HO' := Lib.hid (m'.has HO.out NO.out)
      have NO' := Lib.hid (m'.far HO.out.1 NO.out)
      clear HO NO
      have HO := HO'
      have NO := NO'
      clear HO' NO'
      refine hK.out _ _ ?s16 (fun hNew => ?r16)
      case s16 => exact ⟨HO.out.2.1, s'.cp.1 14, (s'.cp.1 0).trans (by rw [show (wr (65280 + nn) y.s.r.a y1).s = y1.s from rfl, Y1.out]; rfl), trivial⟩
      clear hK K hHeld
      have hHeld := hNew
      clear hNew
      have M2 := Lib.hid (M1.out.trans m')
      obtain ⟨y2, hy⟩ : ∃ q_, q_ = wr (65280 + nn) y.s.r.a y1 := ⟨_, rfl⟩
      rw [← hy] at s'
      have Y2 := Lib.hid hy
      have S2 := Lib.hid s'
      clear s' m' hy
      refine wpAnyH_done (by kernel_rfl) ?_ _
      obtain ⟨hc, hf⟩ := S2.out.cp
      have ho := HO.out.2.1
      go_wp2
      first | go_end0 | refine bodyPost_ret (results_none rfl _ _ _) rfl ?_
      refine ⟨rfl, v2, ?_, M2.out⟩
      have q := S2.out
      have e := Y2.out.symm
      subst e
      have e := Y1.out.symm
      subst e
      exact Sys.mono (n' := n + 1) q (by omega)
set_option maxHeartbeats 2000000 in
theorem perf_37 (h0 : Sys procD ramC w P R M tb v y n) (hn : n < 950000) (x z s nn : Int) (t : Bool) : Calls Tryz.prog 55 #[.pointer (some ⟨P, 0, none⟩), .agg #[.int .i64 37, .int .i64 x, .int .i64 z, .int .i64 s, .int .u16 nn], .bool t] w (PE procD ramC P R M tb v w (.tuple #[]) (wr (65280 + y.s.r.c) y.s.r.a y) (n + 1)) := by
  have hm := mW ⟨R, 0, none⟩
  have ab := h0.ab
  have cb0 := h0.cb
  have cb : 0 ≤ 65280 + y.s.r.c ∧ 65280 + y.s.r.c < 65536 := by omega
  have S0 := Lib.hid (h0.below (own1 w (.cells #[.int .i64 37, .int .i64 x, .int .i64 z, .int .i64 s, .int .u16 nn] 44)))
  have M0 := Lib.hid (show PM P R M tb v w v (w.alloc (.cells #[.int .i64 37, .int .i64 x, .int .i64 z, .int .i64 s, .int .u16 nn] 44)) from PM.of (own1 w (.cells #[.int .i64 37, .int .i64 x, .int .i64 z, .int .i64 s, .int .u16 nn] 44)))
  have HO := Lib.hid (Has.new w #[.int .i64 37, .int .i64 x, .int .i64 z, .int .i64 s, .int .u16 nn] 44)
  have NO := Lib.hid (h0.new (Nat.le_refl w.heap.size))
  obtain ⟨hc, hf⟩ := S0.out.cp
  clear h0
  go_enter Tryz.func55, Tryz.ntmps55
  go_wp2
  generalize w.alloc (.cells #[.int .i64 37, .int .i64 x, .int .i64 z, .int .i64 s, .int .u16 nn] 44) = w0 at S0 M0 HO hc hf ⊢
  generalize w.heap.size = ob at HO NO ⊢
  have ho := HO.out.2.1
  have S0' := Lib.hid S0.out.drew
  have M0' := Lib.hid (M0.out.trans (PM.drew P R M tb v w0))
  have HO' := Lib.hid HO.out.drew
  clear ho HO
  have HO := HO'
  clear HO'
  clear hc hf
  refine wp_region_held_drew (S := (fun w' => (∀ j, w'.cell? ⟨ob, j, none⟩ = #[Value.int .i64 37, .int .i64 x, .int .i64 z, .int .i64 s, .int .u16 nn][j]?) ∧ (w'.cell? ⟨P, 14, none⟩ = some (.iface 31 (.pointer (some ⟨R, 0, none⟩)))) ∧ (w'.cell? ⟨P, 0, none⟩ = some (.int .u8 y.s.r.a)) ∧ True)) (by kernel_rfl) ⟨HO.out.2.1, S0'.out.cp.1 14, S0'.out.cp.1 0, trivial⟩ (fun hHeld => ?_)
  generalize World.drew w0 = u0 at hHeld S0' M0' HO ⊢
  clear S0 M0
  have S0 := S0'
  have M0 := M0'
  clear S0' M0'
  refine wpAnyH_take (i := 0) (oi := { dst := some 133, op := Go.Op.move (Go.Operand.tmp 0), type := 94, pos := "perform.go:47", after := #[], guard := none }) (v := ?v1) rfl (by kernel_rfl) (by kernel_rfl) (by kernel_rfl) (fun _ _ _ h => h) (Or.inl ⟨by rfl, ?y1⟩) (by assumption) ?z1
  case y1 => (intro w hSw; (try dsimp only at hSw); go_simp) <;> with_reducible rfl
  try simp only [Act.put, List.setIfInBounds_toArray, List.set_cons_zero, List.set_cons_succ]
  refine wpAnyH_take (i := 1) (oi := { dst := some 134, op := Go.Op.nilCheck (Go.Operand.tmp 133), type := 0, pos := "perform.go:47", after := #[{ on := 0, ground := Go.Ground.data }], guard := none }) (v := ?v2) rfl (by kernel_rfl) (by kernel_rfl) (by kernel_rfl) (fun _ _ _ h => h) (Or.inl ⟨by rfl, ?y2⟩) (by assumption) ?z2
  case y2 => (intro w hSw; (try dsimp only at hSw); go_simp) <;> with_reducible rfl
  try simp only [Act.put, List.setIfInBounds_toArray, List.set_cons_zero, List.set_cons_succ]
  refine wpAnyH_take (i := 2) (oi := { dst := some 135, op := Go.Op.fieldAddr 85 (Go.Operand.tmp 134) 1, type := 0, pos := "perform.go:47", after := #[{ on := 1, ground := Go.Ground.data }], guard := none }) (v := ?v3) rfl (by kernel_rfl) (by kernel_rfl) (by kernel_rfl) (fun _ _ _ h => h) (Or.inl ⟨by rfl, ?y3⟩) (by assumption) ?z3
  case y3 => (intro w hSw; (try dsimp only at hSw); go_simp) <;> with_reducible rfl
  try simp only [Act.put, List.setIfInBounds_toArray, List.set_cons_zero, List.set_cons_succ]
  refine wpAnyH_take (i := 3) (oi := { dst := some 136, op := Go.Op.load 83 (Go.Operand.tmp 135), type := 83, pos := "perform.go:47", after := #[{ on := 2, ground := Go.Ground.data }], guard := none }) (v := ?v4) rfl (by kernel_rfl) (by kernel_rfl) (by kernel_rfl) (fun _ _ _ h => h) (Or.inl ⟨by rfl, ?y4⟩) (by assumption) ?z4
  case y4 => (intro w hSw; (try dsimp only at hSw); go_simp) <;> with_reducible rfl
  try simp only [Act.put, List.setIfInBounds_toArray, List.set_cons_zero, List.set_cons_succ]
  refine wpAnyH_take (i := 4) (oi := { dst := some 137, op := Go.Op.move (Go.Operand.tmp 0), type := 94, pos := "perform.go:47", after := #[], guard := none }) (v := ?v5) rfl (by kernel_rfl) (by kernel_rfl) (by kernel_rfl) (fun _ _ _ h => h) (Or.inl ⟨by rfl, ?y5⟩) (by assumption) ?z5
  case y5 => (intro w hSw; (try dsimp only at hSw); go_simp) <;> with_reducible rfl
  try simp only [Act.put, List.setIfInBounds_toArray, List.set_cons_zero, List.set_cons_succ]
  refine wpAnyH_take (i := 5) (oi := { dst := some 138, op := Go.Op.load 44 (Go.Operand.tmp 4), type := 44, pos := "perform.go:47", after := #[], guard := none }) (v := ?v6) rfl (by kernel_rfl) (by kernel_rfl) (by kernel_rfl) (fun _ _ _ h => h) (Or.inl ⟨by rfl, ?y6⟩) (by assumption) ?z6
  case y6 => (intro w hSw; (try dsimp only at hSw); go_simp) <;> with_reducible rfl
  try simp only [Act.put, List.setIfInBounds_toArray, List.set_cons_zero, List.set_cons_succ]
  refine wpAnyH_take (i := 7) (oi := { dst := some 140, op := Go.Op.move (Go.Operand.tmp 0), type := 94, pos := "perform.go:47", after := #[], guard := none }) (v := ?v7) rfl (by kernel_rfl) (by kernel_rfl) (by kernel_rfl) (fun _ _ _ h => h) (Or.inl ⟨by rfl, ?y7⟩) (by assumption) ?z7
  case y7 => (intro w hSw; (try dsimp only at hSw); go_simp) <;> with_reducible rfl
  try simp only [Act.put, List.setIfInBounds_toArray, List.set_cons_zero, List.set_cons_succ]
  refine wpAnyH_take (i := 8) (oi := { dst := some 141, op := Go.Op.nilCheck (Go.Operand.tmp 140), type := 0, pos := "perform.go:47", after := #[{ on := 7, ground := Go.Ground.data }], guard := none }) (v := ?v8) rfl (by kernel_rfl) (by kernel_rfl) (by kernel_rfl) (fun _ _ _ h => h) (Or.inl ⟨by rfl, ?y8⟩) (by assumption) ?z8
  case y8 => (intro w hSw; (try dsimp only at hSw); go_simp) <;> with_reducible rfl
  try simp only [Act.put, List.setIfInBounds_toArray, List.set_cons_zero, List.set_cons_succ]
  refine wpAnyH_take (i := 9) (oi := { dst := some 142, op := Go.Op.fieldAddr 85 (Go.Operand.tmp 141) 0, type := 0, pos := "perform.go:47", after := #[{ on := 8, ground := Go.Ground.data }], guard := none }) (v := ?v9) rfl (by kernel_rfl) (by kernel_rfl) (by kernel_rfl) (fun _ _ _ h => h) (Or.inl ⟨by rfl, ?y9⟩) (by assumption) ?z9
  case y9 => (intro w hSw; (try dsimp only at hSw); go_simp) <;> with_reducible rfl
  try simp only [Act.put, List.setIfInBounds_toArray, List.set_cons_zero, List.set_cons_succ]
  refine wpAnyH_take (i := 10) (oi := { dst := some 143, op := Go.Op.fieldAddr 41 (Go.Operand.tmp 142) 0, type := 0, pos := "perform.go:47", after := #[{ on := 9, ground := Go.Ground.data }], guard := none }) (v := ?v10) rfl (by kernel_rfl) (by kernel_rfl) (by kernel_rfl) (fun _ _ _ h => h) (Or.inl ⟨by rfl, ?y10⟩) (by assumption) ?z10
  case y10 => (intro w hSw; (try dsimp only at hSw); go_simp) <;> with_reducible rfl
  try simp only [Act.put, List.setIfInBounds_toArray, List.set_cons_zero, List.set_cons_succ]
  refine wpAnyH_take (i := 11) (oi := { dst := some 144, op := Go.Op.fieldAddr 39 (Go.Operand.tmp 143) 0, type := 0, pos := "perform.go:47", after := #[{ on := 10, ground := Go.Ground.data }], guard := none }) (v := ?v11) rfl (by kernel_rfl) (by kernel_rfl) (by kernel_rfl) (fun _ _ _ h => h) (Or.inl ⟨by rfl, ?y11⟩) (by assumption) ?z11
  case y11 => (intro w hSw; (try dsimp only at hSw); go_simp) <;> with_reducible rfl
  try simp only [Act.put, List.setIfInBounds_toArray, List.set_cons_zero, List.set_cons_succ]
  refine wpAnyH_take (i := 12) (oi := { dst := some 145, op := Go.Op.load 5 (Go.Operand.tmp 144), type := 5, pos := "perform.go:47", after := #[{ on := 11, ground := Go.Ground.data }], guard := none }) (v := ?v12) rfl (by kernel_rfl) (by kernel_rfl) (by kernel_rfl) (fun _ _ _ h => h) (Or.inl ⟨by rfl, ?y12⟩) (by assumption) ?z12
  case y12 => (intro w hSw; (try dsimp only at hSw); go_simp) <;> with_reducible rfl
  try simp only [Act.put, List.setIfInBounds_toArray, List.set_cons_zero, List.set_cons_succ]
  refine wpAnyH_take (i := 13) (oi := { dst := some 146, op := Go.Op.nilCheck (Go.Operand.tmp 136), type := 83, pos := "perform.go:47", after := #[{ on := 3, ground := Go.Ground.data }], guard := none }) (v := ?v13) rfl (by kernel_rfl) (by kernel_rfl) (by kernel_rfl) (fun _ _ _ h => h) (Or.inl ⟨by rfl, ?y13⟩) (by assumption) ?z13
  case y13 => (intro w hSw; (try dsimp only at hSw); go_simp) <;> with_reducible rfl
  try simp only [Act.put, List.setIfInBounds_toArray, List.set_cons_zero, List.set_cons_succ]
  refine wpAnyH_take (i := 14) (oi := { dst := some 147, op := Go.Op.move (Go.Operand.tmp 136), type := 83, pos := "perform.go:47", after := #[{ on := 3, ground := Go.Ground.data }, { on := 13, ground := Go.Ground.data }], guard := none }) (v := ?v14) rfl (by kernel_rfl) (by kernel_rfl) (by kernel_rfl) (fun _ _ _ h => h) (Or.inl ⟨by rfl, ?y14⟩) (by assumption) ?z14
  case y14 => (intro w hSw; (try dsimp only at hSw); go_simp) <;> with_reducible rfl
  try simp only [Act.put, List.setIfInBounds_toArray, List.set_cons_zero, List.set_cons_succ]
  refine wpAnyH_ready (rs := [6]) (by kernel_rfl) (by simp) ?_
  refine (AllReadyH.cons (o := { dst := some 139, op := Go.Op.call { callee := Go.Callee.value (Go.Operand.func 81), args := #[Go.Operand.tmp 137, Go.Operand.tmp 138], argTypes := #[94, 44] }, type := 22, pos := "perform.go:47", after := #[{ on := 4, ground := Go.Ground.data }, { on := 5, ground := Go.Ground.data }], guard := none }) rfl (fun K hK => ?_) AllReadyH.nil)
  · skip
    go_simp
    go_wp2_with (go_at_call 81; (with_reducible refine (addr_37 S0.out (by omega) x z s nn).mono ?_); rintro e w1 ⟨rfl, v1, s', m'⟩)
    have HO' := Lib.hid (m'.has HO.out NO.out)
    have NO' := Lib.hid (m'.far HO.out.1 NO.out)
    clear HO NO
    have HO := HO'
    have NO := NO'
    clear HO' NO'
    refine hK.out _ _ ?s15 (fun hNew => ?r15)
    case s15 => exact ⟨HO.out.2.1, s'.cp.1 14, s'.cp.1 0, trivial⟩
    clear hK K hHeld
    have hHeld := hNew
    clear hNew
    have M1 := Lib.hid (M0.out.trans m')
    obtain ⟨y1, hy⟩ : ∃ q_, q_ = y := ⟨_, rfl⟩
    rw [← hy] at s'
    have Y1 := Lib.hid hy
    have S1 := Lib.hid s'
    clear s' m' hy
    refine wpAnyH_ready (rs := [15]) (by kernel_rfl) (by simp) ?_
    refine (AllReadyH.cons (o := { dst := some 148, op := Go.Op.call { callee := Go.Callee.invoke (Go.Operand.tmp 147) "Write", args := #[Go.Operand.tmp 139, Go.Operand.tmp 145], argTypes := #[22, 5] }, type := 0, pos := "perform.go:47", after := #[{ on := 14, ground := Go.Ground.data }, { on := 6, ground := Go.Ground.data }, { on := 12, ground := Go.Ground.data }, { on := 6, ground := Go.Ground.chain }], guard := none }) rfl (fun K hK => ?_) AllReadyH.nil)
    · skip
      go_simp
      go_wp2_with (go_at_call 177; (with_reducible refine (write_p S1.out (by omega) _ y.s.r.a (cb).1 (cb).2 ab.1 ab.2).mono ?_); rintro e w2 ⟨rfl, v2, s', m'⟩)
      have HO' := Lib.hid (m'.has HO.out NO.out)
      have NO' := Lib.hid (m'.far HO.out.1 NO.out)
      clear HO NO
      have HO := HO'
      have NO := NO'
      clear HO' NO'
      refine hK.out _ _ ?s16 (fun hNew => ?r16)
      case s16 => exact ⟨HO.out.2.1, s'.cp.1 14, (s'.cp.1 0).trans (by rw [show (wr (65280 + y.s.r.c) y.s.r.a y1).s = y1.s from rfl, Y1.out]; rfl), trivial⟩
      clear hK K hHeld
      have hHeld := hNew
      clear hNew
      have M2 := Lib.hid (M1.out.trans m')
      obtain ⟨y2, hy⟩ : ∃ q_, q_ = wr (65280 + y.s.r.c) y.s.r.a y1 := ⟨_, rfl⟩
      rw [← hy] at s'
      have Y2 := Lib.hid hy
      have S2 := Lib.hid s'
      clear s' m' hy
      refine wpAnyH_done (by kernel_rfl) ?_ _
      obtain ⟨hc, hf⟩ := S2.out.cp
      have ho := HO.out.2.1
      go_wp2
      first | go_end0 | refine bodyPost_ret (results_none rfl _ _ _) rfl ?_
      refine ⟨rfl, v2, ?_, M2.out⟩
      have q := S2.out
      have e := Y2.out.symm
      subst e
      have e := Y1.out.symm
      subst e
      exact Sys.mono (n' := n + 1) q (by omega)
set_option maxHeartbeats 2000000 in
theorem perf_39 (h0 : Sys procD ramC w P R M tb v y n) (hn : n < 950000) (x z s nn : Int) (n0 : 0 ≤ nn) (n1 : nn < 65536) (t : Bool) : Calls Tryz.prog 55 #[.pointer (some ⟨P, 0, none⟩), .agg #[.int .i64 39, .int .i64 x, .int .i64 z, .int .i64 s, .int .u16 nn], .bool t] w (PE procD ramC P R M tb v w (.tuple #[]) (wr nn y.s.r.a y) (n + 1)) := by
  have hm := mW ⟨R, 0, none⟩
  have ab := h0.ab
  have nb := And.intro n0 n1
  have S0 := Lib.hid (h0.below (own1 w (.cells #[.int .i64 39, .int .i64 x, .int .i64 z, .int .i64 s, .int .u16 nn] 44)))
  have M0 := Lib.hid (show PM P R M tb v w v (w.alloc (.cells #[.int .i64 39, .int .i64 x, .int .i64 z, .int .i64 s, .int .u16 nn] 44)) from PM.of (own1 w (.cells #[.int .i64 39, .int .i64 x, .int .i64 z, .int .i64 s, .int .u16 nn] 44)))
  have HO := Lib.hid (Has.new w #[.int .i64 39, .int .i64 x, .int .i64 z, .int .i64 s, .int .u16 nn] 44)
  have NO := Lib.hid (h0.new (Nat.le_refl w.heap.size))
  obtain ⟨hc, hf⟩ := S0.out.cp
  clear h0
  go_enter Tryz.func55, Tryz.ntmps55
  go_wp2
  generalize w.alloc (.cells #[.int .i64 39, .int .i64 x, .int .i64 z, .int .i64 s, .int .u16 nn] 44) = w0 at S0 M0 HO hc hf ⊢
  generalize w.heap.size = ob at HO NO ⊢
  have ho := HO.out.2.1
  have S0' := Lib.hid S0.out.drew
  have M0' := Lib.hid (M0.out.trans (PM.drew P R M tb v w0))
  have HO' := Lib.hid HO.out.drew
  clear ho HO
  have HO := HO'
  clear HO'
  clear hc hf
  refine wp_region_held_drew (S := (fun w' => (∀ j, w'.cell? ⟨ob, j, none⟩ = #[Value.int .i64 39, .int .i64 x, .int .i64 z, .int .i64 s, .int .u16 nn][j]?) ∧ (w'.cell? ⟨P, 14, none⟩ = some (.iface 31 (.pointer (some ⟨R, 0, none⟩)))) ∧ (w'.cell? ⟨P, 0, none⟩ = some (.int .u8 y.s.r.a)) ∧ True)) (by kernel_rfl) ⟨HO.out.2.1, S0'.out.cp.1 14, S0'.out.cp.1 0, trivial⟩ (fun hHeld => ?_)
  generalize World.drew w0 = u0 at hHeld S0' M0' HO ⊢
  clear S0 M0
  have S0 := S0'
  have M0 := M0'
  clear S0' M0'
  refine wpAnyH_take (i := 0) (oi := { dst := some 133, op := Go.Op.move (Go.Operand.tmp 0), type := 94, pos := "perform.go:47", after := #[], guard := none }) (v := ?v1) rfl (by kernel_rfl) (by kernel_rfl) (by kernel_rfl) (fun _ _ _ h => h) (Or.inl ⟨by rfl, ?y1⟩) (by assumption) ?z1
  case y1 => (intro w hSw; (try dsimp only at hSw); go_simp) <;> with_reducible rfl
  try simp only [Act.put, List.setIfInBounds_toArray, List.set_cons_zero, List.set_cons_succ]
  refine wpAnyH_take (i := 1) (oi := { dst := some 134, op := Go.Op.nilCheck (Go.Operand.tmp 133), type := 0, pos := "perform.go:47", after := #[{ on := 0, ground := Go.Ground.data }], guard := none }) (v := ?v2) rfl (by kernel_rfl) (by kernel_rfl) (by kernel_rfl) (fun _ _ _ h => h) (Or.inl ⟨by rfl, ?y2⟩) (by assumption) ?z2
  case y2 => (intro w hSw; (try dsimp only at hSw); go_simp) <;> with_reducible rfl
  try simp only [Act.put, List.setIfInBounds_toArray, List.set_cons_zero, List.set_cons_succ]
  refine wpAnyH_take (i := 2) (oi := { dst := some 135, op := Go.Op.fieldAddr 85 (Go.Operand.tmp 134) 1, type := 0, pos := "perform.go:47", after := #[{ on := 1, ground := Go.Ground.data }], guard := none }) (v := ?v3) rfl (by kernel_rfl) (by kernel_rfl) (by kernel_rfl) (fun _ _ _ h => h) (Or.inl ⟨by rfl, ?y3⟩) (by assumption) ?z3
  case y3 => (intro w hSw; (try dsimp only at hSw); go_simp) <;> with_reducible rfl
  try simp only [Act.put, List.setIfInBounds_toArray, List.set_cons_zero, List.set_cons_succ]
  refine wpAnyH_take (i := 3) (oi := { dst := some 136, op := Go.Op.load 83 (Go.Operand.tmp 135), type := 83, pos := "perform.go:47", after := #[{ on := 2, ground := Go.Ground.data }], guard := none }) (v := ?v4) rfl (by kernel_rfl) (by kernel_rfl) (by kernel_rfl) (fun _ _ _ h => h) (Or.inl ⟨by rfl, ?y4⟩) (by assumption) ?z4
  case y4 => (intro w hSw; (try dsimp only at hSw); go_simp) <;> with_reducible rfl
  try simp only [Act.put, List.setIfInBounds_toArray, List.set_cons_zero, List.set_cons_succ]
  refine wpAnyH_take (i := 4) (oi := { dst := some 137, op := Go.Op.move (Go.Operand.tmp 0), type := 94, pos := "perform.go:47", after := #[], guard := none }) (v := ?v5) rfl (by kernel_rfl) (by kernel_rfl) (by kernel_rfl) (fun _ _ _ h => h) (Or.inl ⟨by rfl, ?y5⟩) (by assumption) ?z5
  case y5 => (intro w hSw; (try dsimp only at hSw); go_simp) <;> with_reducible rfl
  try simp only [Act.put, List.setIfInBounds_toArray, List.set_cons_zero, List.set_cons_succ]
  refine wpAnyH_take (i := 5) (oi := { dst := some 138, op := Go.Op.load 44 (Go.Operand.tmp 4), type := 44, pos := "perform.go:47", after := #[], guard := none }) (v := ?v6) rfl (by kernel_rfl) (by kernel_rfl) (by kernel_rfl) (fun _ _ _ h => h) (Or.inl ⟨by rfl, ?y6⟩) (by assumption) ?z6
  case y6 => (intro w hSw; (try dsimp only at hSw); go_simp) <;> with_reducible rfl
  try simp only [Act.put, List.setIfInBounds_toArray, List.set_cons_zero, List.set_cons_succ]
  refine wpAnyH_take (i := 7) (oi := { dst := some 140, op := Go.Op.move (Go.Operand.tmp 0), type := 94, pos := "perform.go:47", after := #[], guard := none }) (v := ?v7) rfl (by kernel_rfl) (by kernel_rfl) (by kernel_rfl) (fun _ _ _ h => h) (Or.inl ⟨by rfl, ?y7⟩) (by assumption) ?z7
  case y7 => (intro w hSw; (try dsimp only at hSw); go_simp) <;> with_reducible rfl
  try simp only [Act.put, List.setIfInBounds_toArray, List.set_cons_zero, List.set_cons_succ]
  refine wpAnyH_take (i := 8) (oi := { dst := some 141, op := Go.Op.nilCheck (Go.Operand.tmp 140), type := 0, pos := "perform.go:47", after := #[{ on := 7, ground := Go.Ground.data }], guard := none }) (v := ?v8) rfl (by kernel_rfl) (by kernel_rfl) (by kernel_rfl) (fun _ _ _ h => h) (Or.inl ⟨by rfl, ?y8⟩) (by assumption) ?z8
  case y8 => (intro w hSw; (try dsimp only at hSw); go_simp) <;> with_reducible rfl
  try simp only [Act.put, List.setIfInBounds_toArray, List.set_cons_zero, List.set_cons_succ]
  refine wpAnyH_take (i := 9) (oi := { dst := some 142, op := Go.Op.fieldAddr 85 (Go.Operand.tmp 141) 0, type := 0, pos := "perform.go:47", after := #[{ on := 8, ground := Go.Ground.data }], guard := none }) (v := ?v9) rfl (by kernel_rfl) (by kernel_rfl) (by kernel_rfl) (fun _ _ _ h => h) (Or.inl ⟨by rfl, ?y9⟩) (by assumption) ?z9
  case y9 => (intro w hSw; (try dsimp only at hSw); go_simp) <;> with_reducible rfl
  try simp only [Act.put, List.setIfInBounds_toArray, List.set_cons_zero, List.set_cons_succ]
  refine wpAnyH_take (i := 10) (oi := { dst := some 143, op := Go.Op.fieldAddr 41 (Go.Operand.tmp 142) 0, type := 0, pos := "perform.go:47", after := #[{ on := 9, ground := Go.Ground.data }], guard := none }) (v := ?v10) rfl (by kernel_rfl) (by kernel_rfl) (by kernel_rfl) (fun _ _ _ h => h) (Or.inl ⟨by rfl, ?y10⟩) (by assumption) ?z10
  case y10 => (intro w hSw; (try dsimp only at hSw); go_simp) <;> with_reducible rfl
  try simp only [Act.put, List.setIfInBounds_toArray, List.set_cons_zero, List.set_cons_succ]
  refine wpAnyH_take (i := 11) (oi := { dst := some 144, op := Go.Op.fieldAddr 39 (Go.Operand.tmp 143) 0, type := 0, pos := "perform.go:47", after := #[{ on := 10, ground := Go.Ground.data }], guard := none }) (v := ?v11) rfl (by kernel_rfl) (by kernel_rfl) (by kernel_rfl) (fun _ _ _ h => h) (Or.inl ⟨by rfl, ?y11⟩) (by assumption) ?z11
  case y11 => (intro w hSw; (try dsimp only at hSw); go_simp) <;> with_reducible rfl
  try simp only [Act.put, List.setIfInBounds_toArray, List.set_cons_zero, List.set_cons_succ]
  refine wpAnyH_take (i := 12) (oi := { dst := some 145, op := Go.Op.load 5 (Go.Operand.tmp 144), type := 5, pos := "perform.go:47", after := #[{ on := 11, ground := Go.Ground.data }], guard := none }) (v := ?v12) rfl (by kernel_rfl) (by kernel_rfl) (by kernel_rfl) (fun _ _ _ h => h) (Or.inl ⟨by rfl, ?y12⟩) (by assumption) ?z12
  case y12 => (intro w hSw; (try dsimp only at hSw); go_simp) <;> with_reducible rfl
  try simp only [Act.put, List.setIfInBounds_toArray, List.set_cons_zero, List.set_cons_succ]
  refine wpAnyH_take (i := 13) (oi := { dst := some 146, op := Go.Op.nilCheck (Go.Operand.tmp 136), type := 83, pos := "perform.go:47", after := #[{ on := 3, ground := Go.Ground.data }], guard := none }) (v := ?v13) rfl (by kernel_rfl) (by kernel_rfl) (by kernel_rfl) (fun _ _ _ h => h) (Or.inl ⟨by rfl, ?y13⟩) (by assumption) ?z13
  case y13 => (intro w hSw; (try dsimp only at hSw); go_simp) <;> with_reducible rfl
  try simp only [Act.put, List.setIfInBounds_toArray, List.set_cons_zero, List.set_cons_succ]
  refine wpAnyH_take (i := 14) (oi := { dst := some 147, op := Go.Op.move (Go.Operand.tmp 136), type := 83, pos := "perform.go:47", after := #[{ on := 3, ground := Go.Ground.data }, { on := 13, ground := Go.Ground.data }], guard := none }) (v := ?v14) rfl (by kernel_rfl) (by kernel_rfl) (by kernel_rfl) (fun _ _ _ h => h) (Or.inl ⟨by rfl, ?y14⟩) (by assumption) ?z14
  case y14 => (intro w hSw; (try dsimp only at hSw); go_simp) <;> with_reducible rfl
  try simp only [Act.put, List.setIfInBounds_toArray, List.set_cons_zero, List.set_cons_succ]
  refine wpAnyH_ready (rs := [6]) (by kernel_rfl) (by simp) ?_
  refine (AllReadyH.cons (o := { dst := some 139, op := Go.Op.call { callee := Go.Callee.value (Go.Operand.func 81), args := #[Go.Operand.tmp 137, Go.Operand.tmp 138], argTypes := #[94, 44] }, type := 22, pos := "perform.go:47", after := #[{ on := 4, ground := Go.Ground.data }, { on := 5, ground := Go.Ground.data }], guard := none }) rfl (fun K hK => ?_) AllReadyH.nil)
  · skip
    go_simp
    go_wp2_with (go_at_call 81; (with_reducible refine (addr_39 S0.out (by omega) x z s nn).mono ?_); rintro e w1 ⟨rfl, v1, s', m'⟩)
    have HO' := Lib.hid (m'.has HO.out NO.out)
    have NO' := Lib.hid (m'.far HO.out.1 NO.out)
    clear HO NO
    have HO := HO'
    have NO := NO'
    clear HO' NO'
    refine hK.out _ _ ?s15 (fun hNew => ?r15)
    case s15 => exact ⟨HO.out.2.1, s'.cp.1 14, s'.cp.1 0, trivial⟩
    clear hK K hHeld
    have hHeld := hNew
    clear hNew
    have M1 := Lib.hid (M0.out.trans m')
    obtain ⟨y1, hy⟩ : ∃ q_, q_ = y := ⟨_, rfl⟩
    rw [← hy] at s'
    have Y1 := Lib.hid hy
    have S1 := Lib.hid s'
    clear s' m' hy
    refine wpAnyH_ready (rs := [15]) (by kernel_rfl) (by simp) ?_
    refine (AllReadyH.cons (o := { dst := some 148, op := Go.Op.call { callee := Go.Callee.invoke (Go.Operand.tmp 147) "Write", args := #[Go.Operand.tmp 139, Go.Operand.tmp 145], argTypes := #[22, 5] }, type := 0, pos := "perform.go:47", after := #[{ on := 14, ground := Go.Ground.data }, { on := 6, ground := Go.Ground.data }, { on := 12, ground := Go.Ground.data }, { on := 6, ground := Go.Ground.chain }], guard := none }) rfl (fun K hK => ?_) AllReadyH.nil)
    · skip
      go_simp
      go_wp2_with (go_at_call 177; (with_reducible refine (write_p S1.out (by omega) _ y.s.r.a (nb).1 (nb).2 ab.1 ab.2).mono ?_); rintro e w2 ⟨rfl, v2, s', m'⟩)
      have HO' := Lib.hid (m'.has HO.out NO.out)
      have NO' := Lib.hid (m'.far HO.out.1 NO.out)
      clear HO NO
      have HO := HO'
      have NO := NO'
      clear HO' NO'
      refine hK.out _ _ ?s16 (fun hNew => ?r16)
      case s16 => exact ⟨HO.out.2.1, s'.cp.1 14, (s'.cp.1 0).trans (by rw [show (wr (nn) y.s.r.a y1).s = y1.s from rfl, Y1.out]; rfl), trivial⟩
      clear hK K hHeld
      have hHeld := hNew
      clear hNew
      have M2 := Lib.hid (M1.out.trans m')
      obtain ⟨y2, hy⟩ : ∃ q_, q_ = wr (nn) y.s.r.a y1 := ⟨_, rfl⟩
      rw [← hy] at s'
      have Y2 := Lib.hid hy
      have S2 := Lib.hid s'
      clear s' m' hy
      refine wpAnyH_done (by kernel_rfl) ?_ _
      obtain ⟨hc, hf⟩ := S2.out.cp
      have ho := HO.out.2.1
      go_wp2
      first | go_end0 | refine bodyPost_ret (results_none rfl _ _ _) rfl ?_
      refine ⟨rfl, v2, ?_, M2.out⟩
      have q := S2.out
      have e := Y2.out.symm
      subst e
      have e := Y1.out.symm
      subst e
      exact Sys.mono (n' := n + 1) q (by omega)
end
end Go.Proofs.YtngdogldgcgnjaaGreat
