/-
  What calculate does: for every world; the processor is there.
-/
import Derived.Test.YtngdogldgcgnjaaGreatP4b
import Derived.Test.YtngdogldgcgnjaaGreatP4c
import Derived.Test.YtngdogldgcgnjaaGreatP4d
import Derived.Test.YtngdogldgcgnjaaGreatP4e
namespace Go.Proofs.YtngdogldgcgnjaaGreat
open Go.ChangeShapes Go.WideShapes Go.ChangeAt Go.RowKit
open Reg
set_option linter.unusedVariables false
set_option maxRecDepth 100000
section
variable {w : World} {P R M tb n : Nat} {v : Value} {y : Sy}
theorem fl128 (f : Int) (h1 : 0 ≤ f) (h2 : f < 256) : bits .or .u8 (bits .and .u8 f 128) 16 = Alu.FL (Alu.zf f) false false true :=
  byte_all (P := fun f => bits .or .u8 (bits .and .u8 f 128) 16 = Alu.FL (Alu.zf f) false false true) (by decide +kernel) f h1 h2
theorem fl144 (f : Int) (h1 : 0 ≤ f) (h2 : f < 256) : bits .xor .u8 (bits .and .u8 f 144) 16 = Alu.FL (Alu.zf f) false false (!Alu.cf f) :=
  byte_all (P := fun f => bits .xor .u8 (bits .and .u8 f 144) 16 = Alu.FL (Alu.zf f) false false (!Alu.cf f)) (by decide +kernel) f h1 h2
theorem fl96 (f : Int) (h1 : 0 ≤ f) (h2 : f < 256) : bits .or .u8 (bits .or .u8 (bits .and .u8 f 144) 64) 32 = Alu.FL (Alu.zf f) true true (Alu.cf f) :=
  byte_all (P := fun f => bits .or .u8 (bits .or .u8 (bits .and .u8 f 144) 64) 32 = Alu.FL (Alu.zf f) true true (Alu.cf f)) (by decide +kernel) f h1 h2
theorem cpl8 (a : Int) (h1 : 0 ≤ a) (h2 : a < 256) : bits .xor .u8 IntKind.u8.max a = 255 - a :=
  byte_all (P := fun a => bits .xor .u8 IntKind.u8.max a = 255 - a) (by decide +kernel) a h1 h2
theorem tz (x a f : Int) : bits .andNot .u8 (Alu.turnF x a f) 128 = Alu.fl 16 (Alu.turnO x a) := by
  unfold Alu.turnF
  generalize (Alu.turnR x a f == 0) = p
  generalize Alu.turnO x a = q
  cases p <;> cases q <;> kernel_rfl
set_option maxHeartbeats 2000000 in
theorem calc_10 (h0 : Sys procD ramC w P R M tb v y n) (hn : n < 960000) (x z s nn : Int) (x0 : 0 ≤ x) (x1 : x < 8) : Calls Tryz.prog 82 #[.pointer (some ⟨P, 0, none⟩), .agg #[.int .i64 10, .int .i64 x, .int .i64 z, .int .i64 s, .int .u16 nn]] w (PE procD ramC P R M tb v w (.tuple #[]) (sumS x (getY z y) (getS z y)) (n + 1)) := by
  have S0 := Lib.hid (h0.below (own1 w (.cells #[.int .i64 10, .int .i64 x, .int .i64 z, .int .i64 s, .int .u16 nn] 44)))
  have M0 := Lib.hid (show PM P R M tb v w v (w.alloc (.cells #[.int .i64 10, .int .i64 x, .int .i64 z, .int .i64 s, .int .u16 nn] 44)) from PM.of (own1 w (.cells #[.int .i64 10, .int .i64 x, .int .i64 z, .int .i64 s, .int .u16 nn] 44)))
  have HO := Lib.hid (Has.new w #[.int .i64 10, .int .i64 x, .int .i64 z, .int .i64 s, .int .u16 nn] 44)
  have NO := Lib.hid (h0.new (Nat.le_refl w.heap.size))
  obtain ⟨hc, hf⟩ := S0.out.cp
  clear h0
  go_enter Tryz.func82, Tryz.ntmps82
  go_wp2
  generalize w.alloc (.cells #[.int .i64 10, .int .i64 x, .int .i64 z, .int .i64 s, .int .u16 nn] 44) = w0 at S0 M0 HO hc hf ⊢
  generalize w.heap.size = ob at HO NO ⊢
  have ho := HO.out.2.1
  have S0' := Lib.hid S0.out.drew
  have M0' := Lib.hid (M0.out.trans (PM.drew P R M tb v w0))
  have HO' := Lib.hid HO.out.drew
  clear ho HO
  have HO := HO'
  clear HO'
  clear hc hf
  refine wp_region_held_drew (S := (fun w' => (∀ j, w'.cell? ⟨ob, j, none⟩ = #[Value.int .i64 10, .int .i64 x, .int .i64 z, .int .i64 s, .int .u16 nn][j]?) ∧ True)) (by kernel_rfl) ⟨HO.out.2.1, trivial⟩ (fun hHeld => ?_)
  generalize World.drew w0 = u0 at hHeld S0' M0' HO ⊢
  clear S0 M0
  have S0 := S0'
  have M0 := M0'
  clear S0' M0'
  refine wpAnyH_take (i := 0) (oi := { dst := some 8, op := Go.Op.move (Go.Operand.tmp 0), type := 94, pos := "calculate.go:14", after := #[], guard := none }) (v := ?v1) rfl (by kernel_rfl) (by kernel_rfl) (by kernel_rfl) (fun _ _ _ h => h) (Or.inl ⟨by rfl, ?y1⟩) (by assumption) ?z1
  case y1 => (intro w hSw; (try dsimp only at hSw); go_simp) <;> with_reducible rfl
  try simp only [Act.put, List.setIfInBounds_toArray, List.set_cons_zero, List.set_cons_succ]
  refine wpAnyH_take (i := 1) (oi := { dst := some 9, op := Go.Op.fieldAddr 44 (Go.Operand.tmp 3) 1, type := 0, pos := "calculate.go:14", after := #[], guard := none }) (v := ?v2) rfl (by kernel_rfl) (by kernel_rfl) (by kernel_rfl) (fun _ _ _ h => h) (Or.inl ⟨by rfl, ?y2⟩) (by assumption) ?z2
  case y2 => (intro w hSw; (try dsimp only at hSw); go_simp) <;> with_reducible rfl
  try simp only [Act.put, List.setIfInBounds_toArray, List.set_cons_zero, List.set_cons_succ]
  refine wpAnyH_take (i := 2) (oi := { dst := some 10, op := Go.Op.load 3 (Go.Operand.tmp 9), type := 3, pos := "calculate.go:14", after := #[{ on := 1, ground := Go.Ground.data }], guard := none }) (v := ?v3) rfl (by kernel_rfl) (by kernel_rfl) (by kernel_rfl) (fun _ _ _ h => h) (Or.inl ⟨by rfl, ?y3⟩) (by assumption) ?z3
  case y3 => (intro w hSw; (try dsimp only at hSw); go_simp) <;> with_reducible rfl
  try simp only [Act.put, List.setIfInBounds_toArray, List.set_cons_zero, List.set_cons_succ]
  refine wpAnyH_take (i := 3) (oi := { dst := some 11, op := Go.Op.move (Go.Operand.tmp 0), type := 94, pos := "calculate.go:14", after := #[], guard := none }) (v := ?v4) rfl (by kernel_rfl) (by kernel_rfl) (by kernel_rfl) (fun _ _ _ h => h) (Or.inl ⟨by rfl, ?y4⟩) (by assumption) ?z4
  case y4 => (intro w hSw; (try dsimp only at hSw); go_simp) <;> with_reducible rfl
  try simp only [Act.put, List.setIfInBounds_toArray, List.set_cons_zero, List.set_cons_succ]
  refine wpAnyH_take (i := 4) (oi := { dst := some 12, op := Go.Op.fieldAddr 44 (Go.Operand.tmp 3) 2, type := 0, pos := "calculate.go:14", after := #[], guard := none }) (v := ?v5) rfl (by kernel_rfl) (by kernel_rfl) (by kernel_rfl) (fun _ _ _ h => h) (Or.inl ⟨by rfl, ?y5⟩) (by assumption) ?z5
  case y5 => (intro w hSw; (try dsimp only at hSw); go_simp) <;> with_reducible rfl
  try simp only [Act.put, List.setIfInBounds_toArray, List.set_cons_zero, List.set_cons_succ]
  refine wpAnyH_take (i := 5) (oi := { dst := some 13, op := Go.Op.load 3 (Go.Operand.tmp 12), type := 3, pos := "calculate.go:14", after := #[{ on := 4, ground := Go.Ground.data }], guard := none }) (v := ?v6) rfl (by kernel_rfl) (by kernel_rfl) (by kernel_rfl) (fun _ _ _ h => h) (Or.inl ⟨by rfl, ?y6⟩) (by assumption) ?z6
  case y6 => (intro w hSw; (try dsimp only at hSw); go_simp) <;> with_reducible rfl
  try simp only [Act.put, List.setIfInBounds_toArray, List.set_cons_zero, List.set_cons_succ]
  refine wpAnyH_ready (rs := [6]) (by kernel_rfl) (by simp) ?_
  refine (AllReadyH.cons (o := { dst := some 14, op := Go.Op.call { callee := Go.Callee.value (Go.Operand.func 89), args := #[Go.Operand.tmp 11, Go.Operand.tmp 13], argTypes := #[94, 3] }, type := 5, pos := "calculate.go:14", after := #[{ on := 3, ground := Go.Ground.data }, { on := 5, ground := Go.Ground.data }], guard := none }) rfl (fun K hK => ?_) AllReadyH.nil)
  · skip
    go_simp
    go_wp2_with (go_at_call 89; (with_reducible refine (get_p S0.out (by omega) z).mono ?_); rintro e w1 ⟨rfl, v1, s', m'⟩)
    have HO' := Lib.hid (m'.has HO.out NO.out)
    have NO' := Lib.hid (m'.far HO.out.1 NO.out)
    clear HO NO
    have HO := HO'
    have NO := NO'
    clear HO' NO'
    refine hK.out _ _ ?s7 (fun hNew => ?r7)
    case s7 => exact ⟨HO.out.2.1, trivial⟩
    clear hK K hHeld
    have hHeld := hNew
    clear hNew
    have M1 := Lib.hid (M0.out.trans m')
    obtain ⟨y1, hy⟩ : ∃ q_, q_ = getS z y := ⟨_, rfl⟩
    rw [← hy] at s'
    have Y1 := Lib.hid hy
    have S1 := Lib.hid s'
    clear s' m' hy
    refine wpAnyH_ready (rs := [7]) (by kernel_rfl) (by simp) ?_
    refine (AllReadyH.cons (o := { dst := some 15, op := Go.Op.call { callee := Go.Callee.value (Go.Operand.func 91), args := #[Go.Operand.tmp 8, Go.Operand.tmp 10, Go.Operand.tmp 14], argTypes := #[94, 3, 5] }, type := 0, pos := "calculate.go:14", after := #[{ on := 0, ground := Go.Ground.data }, { on := 2, ground := Go.Ground.data }, { on := 6, ground := Go.Ground.data }, { on := 6, ground := Go.Ground.chain }], guard := none }) rfl (fun K hK => ?_) AllReadyH.nil)
    · skip
      go_simp
      go_wp2_with (go_at_call 91; (with_reducible refine (sum_p S1.out (by omega) x _ x0 x1 (S0.out.getb z).1 (S0.out.getb z).2).mono ?_); rintro e w2 ⟨rfl, v2, s', m'⟩)
      have HO' := Lib.hid (m'.has HO.out NO.out)
      have NO' := Lib.hid (m'.far HO.out.1 NO.out)
      clear HO NO
      have HO := HO'
      have NO := NO'
      clear HO' NO'
      refine hK.out _ _ ?s8 (fun hNew => ?r8)
      case s8 => exact ⟨HO.out.2.1, trivial⟩
      clear hK K hHeld
      have hHeld := hNew
      clear hNew
      have M2 := Lib.hid (M1.out.trans m')
      obtain ⟨y2, hy⟩ : ∃ q_, q_ = sumS x (getY z y) y1 := ⟨_, rfl⟩
      rw [← hy] at s'
      have Y2 := Lib.hid hy
      have S2 := Lib.hid s'
      clear s' m' hy
      refine wpAnyH_done (by kernel_rfl) ?_ _
      obtain ⟨hc, hf⟩ := S2.out.cp
      have ho := HO.out.2.1
      go_wp2
      first | go_end0 | refine bodyPost_ret (results_none rfl _ _ _) rfl ?_
      refine ⟨rfl, v2, ?_, M2.out⟩
      have q := S2.out
      have e := Y2.out.symm
      subst e
      have e := Y1.out.symm
      subst e
      exact Sys.mono (n' := n + 1) q (by omega)
set_option maxHeartbeats 2000000 in
theorem calc_11 (h0 : Sys procD ramC w P R M tb v y n) (hn : n < 960000) (x z s nn : Int) (x0 : 0 ≤ x) (x1 : x < 8) : Calls Tryz.prog 82 #[.pointer (some ⟨P, 0, none⟩), .agg #[.int .i64 11, .int .i64 x, .int .i64 z, .int .i64 s, .int .u16 nn]] w (PE procD ramC P R M tb v w (.tuple #[]) (sumS x (nn % 256) y) (n + 0)) := by
  have S0 := Lib.hid (h0.below (own1 w (.cells #[.int .i64 11, .int .i64 x, .int .i64 z, .int .i64 s, .int .u16 nn] 44)))
  have M0 := Lib.hid (show PM P R M tb v w v (w.alloc (.cells #[.int .i64 11, .int .i64 x, .int .i64 z, .int .i64 s, .int .u16 nn] 44)) from PM.of (own1 w (.cells #[.int .i64 11, .int .i64 x, .int .i64 z, .int .i64 s, .int .u16 nn] 44)))
  have HO := Lib.hid (Has.new w #[.int .i64 11, .int .i64 x, .int .i64 z, .int .i64 s, .int .u16 nn] 44)
  have NO := Lib.hid (h0.new (Nat.le_refl w.heap.size))
  obtain ⟨hc, hf⟩ := S0.out.cp
  clear h0
  go_enter Tryz.func82, Tryz.ntmps82
  go_wp2_with fail
  generalize w.alloc (.cells #[.int .i64 11, .int .i64 x, .int .i64 z, .int .i64 s, .int .u16 nn] 44) = w0 at S0 M0 HO hc hf ⊢
  generalize w.heap.size = ob at HO NO ⊢
  have ho := HO.out.2.1
  with_reducible refine (sum_p S0.out (by omega) x (nn % 256) x0 x1 (by omega) (by omega)).mono ?_
  rintro e w1 ⟨rfl, v1, s', m'⟩
  have HO' := Lib.hid (m'.has HO.out NO.out)
  have NO' := Lib.hid (m'.far HO.out.1 NO.out)
  clear ho HO NO
  have HO := HO'
  have NO := NO'
  clear HO' NO'
  have ho := HO.out.2.1
  have M1 := Lib.hid (M0.out.trans m')
  obtain ⟨y1, hy⟩ : ∃ q_, q_ = sumS x (nn % 256) y := ⟨_, rfl⟩
  rw [← hy] at s'
  have Y1 := Lib.hid hy
  clear hc hf
  obtain ⟨hc, hf⟩ := s'.cp
  have S1 := Lib.hid s'
  clear s' m' hy
  go_wp2
  first | go_end0 | refine bodyPost_ret (results_none rfl _ _ _) rfl ?_
  refine ⟨rfl, v1, ?_, M1.out⟩
  have q := S1.out
  have e := Y1.out.symm
  subst e
  exact Sys.mono (n' := n + 0) q (by omega)
set_option maxHeartbeats 2000000 in
theorem calc_12 (h0 : Sys procD ramC w P R M tb v y n) (hn : n < 960000) (x z s nn : Int) : Calls Tryz.prog 82 #[.pointer (some ⟨P, 0, none⟩), .agg #[.int .i64 12, .int .i64 x, .int .i64 z, .int .i64 s, .int .u16 nn]] w (PE procD ramC P R M tb v w (.tuple #[]) (setF (Alu.incF (getY x y) y.s.r.f) (putS x ((getY x y + 1) % 256) (getS x y))) (n + 2)) := by
  have S0 := Lib.hid (h0.below (own1 w (.cells #[.int .i64 12, .int .i64 x, .int .i64 z, .int .i64 s, .int .u16 nn] 44)))
  have M0 := Lib.hid (show PM P R M tb v w v (w.alloc (.cells #[.int .i64 12, .int .i64 x, .int .i64 z, .int .i64 s, .int .u16 nn] 44)) from PM.of (own1 w (.cells #[.int .i64 12, .int .i64 x, .int .i64 z, .int .i64 s, .int .u16 nn] 44)))
  have HO := Lib.hid (Has.new w #[.int .i64 12, .int .i64 x, .int .i64 z, .int .i64 s, .int .u16 nn] 44)
  have NO := Lib.hid (h0.new (Nat.le_refl w.heap.size))
  obtain ⟨hc, hf⟩ := S0.out.cp
  clear h0
  go_enter Tryz.func82, Tryz.ntmps82
  go_wp2_with fail
  generalize w.alloc (.cells #[.int .i64 12, .int .i64 x, .int .i64 z, .int .i64 s, .int .u16 nn] 44) = w0 at S0 M0 HO hc hf ⊢
  generalize w.heap.size = ob at HO NO ⊢
  have ho := HO.out.2.1
  with_reducible refine (change_Inc S0.out (by omega) x).mono ?_
  rintro e w1 ⟨rfl, v1, s', m'⟩
  have HO' := Lib.hid (m'.has HO.out NO.out)
  have NO' := Lib.hid (m'.far HO.out.1 NO.out)
  clear ho HO NO
  have HO := HO'
  have NO := NO'
  clear HO' NO'
  have ho := HO.out.2.1
  have M1 := Lib.hid (M0.out.trans m')
  obtain ⟨y1, hy⟩ : ∃ q_, q_ = setF (Alu.incF (getY x y) y.s.r.f) (putS x ((getY x y + 1) % 256) (getS x y)) := ⟨_, rfl⟩
  rw [← hy] at s'
  have Y1 := Lib.hid hy
  clear hc hf
  obtain ⟨hc, hf⟩ := s'.cp
  have S1 := Lib.hid s'
  clear s' m' hy
  go_wp2
  first | go_end0 | refine bodyPost_ret (results_none rfl _ _ _) rfl ?_
  refine ⟨rfl, v1, ?_, M1.out⟩
  have q := S1.out
  have e := Y1.out.symm
  subst e
  exact Sys.mono (n' := n + 2) q (by omega)
set_option maxHeartbeats 2000000 in
theorem calc_13 (h0 : Sys procD ramC w P R M tb v y n) (hn : n < 960000) (x z s nn : Int) : Calls Tryz.prog 82 #[.pointer (some ⟨P, 0, none⟩), .agg #[.int .i64 13, .int .i64 x, .int .i64 z, .int .i64 s, .int .u16 nn]] w (PE procD ramC P R M tb v w (.tuple #[]) (setF (Alu.decF (getY x y) y.s.r.f) (putS x ((getY x y - 1) % 256) (getS x y))) (n + 2)) := by
  have S0 := Lib.hid (h0.below (own1 w (.cells #[.int .i64 13, .int .i64 x, .int .i64 z, .int .i64 s, .int .u16 nn] 44)))
  have M0 := Lib.hid (show PM P R M tb v w v (w.alloc (.cells #[.int .i64 13, .int .i64 x, .int .i64 z, .int .i64 s, .int .u16 nn] 44)) from PM.of (own1 w (.cells #[.int .i64 13, .int .i64 x, .int .i64 z, .int .i64 s, .int .u16 nn] 44)))
  have HO := Lib.hid (Has.new w #[.int .i64 13, .int .i64 x, .int .i64 z, .int .i64 s, .int .u16 nn] 44)
  have NO := Lib.hid (h0.new (Nat.le_refl w.heap.size))
  obtain ⟨hc, hf⟩ := S0.out.cp
  clear h0
  go_enter Tryz.func82, Tryz.ntmps82
  go_wp2_with fail
  generalize w.alloc (.cells #[.int .i64 13, .int .i64 x, .int .i64 z, .int .i64 s, .int .u16 nn] 44) = w0 at S0 M0 HO hc hf ⊢
  generalize w.heap.size = ob at HO NO ⊢
  have ho := HO.out.2.1
  with_reducible refine (change_Dec S0.out (by omega) x).mono ?_
  rintro e w1 ⟨rfl, v1, s', m'⟩
  have HO' := Lib.hid (m'.has HO.out NO.out)
  have NO' := Lib.hid (m'.far HO.out.1 NO.out)
  clear ho HO NO
  have HO := HO'
  have NO := NO'
  clear HO' NO'
  have ho := HO.out.2.1
  have M1 := Lib.hid (M0.out.trans m')
  obtain ⟨y1, hy⟩ : ∃ q_, q_ = setF (Alu.decF (getY x y) y.s.r.f) (putS x ((getY x y - 1) % 256) (getS x y)) := ⟨_, rfl⟩
  rw [← hy] at s'
  have Y1 := Lib.hid hy
  clear hc hf
  obtain ⟨hc, hf⟩ := s'.cp
  have S1 := Lib.hid s'
  clear s' m' hy
  go_wp2
  first | go_end0 | refine bodyPost_ret (results_none rfl _ _ _) rfl ?_
  refine ⟨rfl, v1, ?_, M1.out⟩
  have q := S1.out
  have e := Y1.out.symm
  subst e
  exact Sys.mono (n' := n + 2) q (by omega)
set_option maxHeartbeats 2000000 in
theorem calc_17 (h0 : Sys procD ramC w P R M tb v y n) (hn : n < 960000) (x z s nn : Int) : Calls Tryz.prog 82 #[.pointer (some ⟨P, 0, none⟩), .agg #[.int .i64 17, .int .i64 x, .int .i64 z, .int .i64 s, .int .u16 nn]] w (PE procD ramC P R M tb v w (.tuple #[]) (putS z (Alu.turnR x (getY z y) y.s.r.f) (setF (Alu.turnF x (getY z y) y.s.r.f) (getS z y))) (n + 2)) := by
  have S0 := Lib.hid (h0.below (own1 w (.cells #[.int .i64 17, .int .i64 x, .int .i64 z, .int .i64 s, .int .u16 nn] 44)))
  have M0 := Lib.hid (show PM P R M tb v w v (w.alloc (.cells #[.int .i64 17, .int .i64 x, .int .i64 z, .int .i64 s, .int .u16 nn] 44)) from PM.of (own1 w (.cells #[.int .i64 17, .int .i64 x, .int .i64 z, .int .i64 s, .int .u16 nn] 44)))
  have HO := Lib.hid (Has.new w #[.int .i64 17, .int .i64 x, .int .i64 z, .int .i64 s, .int .u16 nn] 44)
  have NO := Lib.hid (h0.new (Nat.le_refl w.heap.size))
  obtain ⟨hc, hf⟩ := S0.out.cp
  clear h0
  go_enter Tryz.func82, Tryz.ntmps82
  go_wp2_with fail
  generalize w.alloc (.cells #[.int .i64 17, .int .i64 x, .int .i64 z, .int .i64 s, .int .u16 nn] 44) = w0 at S0 M0 HO hc hf ⊢
  generalize w.heap.size = ob at HO NO ⊢
  have ho := HO.out.2.1
  with_reducible refine (pre_17 S0.out (by omega) x z s nn).mono ?_
  rintro e w1 ⟨rfl, v1, s', m'⟩
  have HO' := Lib.hid (m'.has HO.out NO.out)
  have NO' := Lib.hid (m'.far HO.out.1 NO.out)
  clear ho HO NO
  have HO := HO'
  have NO := NO'
  clear HO' NO'
  have ho := HO.out.2.1
  have M1 := Lib.hid (M0.out.trans m')
  obtain ⟨y1, hy⟩ : ∃ q_, q_ = putS z (Alu.turnR x (getY z y) y.s.r.f) (setF (Alu.turnF x (getY z y) y.s.r.f) (getS z y)) := ⟨_, rfl⟩
  rw [← hy] at s'
  have Y1 := Lib.hid hy
  clear hc hf
  obtain ⟨hc, hf⟩ := s'.cp
  have S1 := Lib.hid s'
  clear s' m' hy
  go_wp2
  first | go_end0 | refine bodyPost_ret (results_none rfl _ _ _) rfl ?_
  refine ⟨rfl, v1, ?_, M1.out⟩
  have q := S1.out
  have e := Y1.out.symm
  subst e
  exact Sys.mono (n' := n + 2) q (by omega)
set_option maxHeartbeats 2000000 in
theorem calc_44 (h0 : Sys procD ramC w P R M tb v y n) (hn : n < 960000) (x z s nn : Int) : Calls Tryz.prog 82 #[.pointer (some ⟨P, 0, none⟩), .agg #[.int .i64 44, .int .i64 x, .int .i64 z, .int .i64 s, .int .u16 nn]] w (PE procD ramC P R M tb v w (.tuple #[]) (setF (Alu.bitF x (getY z y) y.s.r.f) (getS z y)) (n + 1)) := by
  have S0 := Lib.hid (h0.below (own1 w (.cells #[.int .i64 44, .int .i64 x, .int .i64 z, .int .i64 s, .int .u16 nn] 44)))
  have M0 := Lib.hid (show PM P R M tb v w v (w.alloc (.cells #[.int .i64 44, .int .i64 x, .int .i64 z, .int .i64 s, .int .u16 nn] 44)) from PM.of (own1 w (.cells #[.int .i64 44, .int .i64 x, .int .i64 z, .int .i64 s, .int .u16 nn] 44)))
  have HO := Lib.hid (Has.new w #[.int .i64 44, .int .i64 x, .int .i64 z, .int .i64 s, .int .u16 nn] 44)
  have NO := Lib.hid (h0.new (Nat.le_refl w.heap.size))
  obtain ⟨hc, hf⟩ := S0.out.cp
  clear h0
  go_enter Tryz.func82, Tryz.ntmps82
  go_wp2_with fail
  generalize w.alloc (.cells #[.int .i64 44, .int .i64 x, .int .i64 z, .int .i64 s, .int .u16 nn] 44) = w0 at S0 M0 HO hc hf ⊢
  generalize w.heap.size = ob at HO NO ⊢
  have ho := HO.out.2.1
  with_reducible refine (pre_44 S0.out (by omega) x z s nn).mono ?_
  rintro e w1 ⟨rfl, v1, s', m'⟩
  have HO' := Lib.hid (m'.has HO.out NO.out)
  have NO' := Lib.hid (m'.far HO.out.1 NO.out)
  clear ho HO NO
  have HO := HO'
  have NO := NO'
  clear HO' NO'
  have ho := HO.out.2.1
  have M1 := Lib.hid (M0.out.trans m')
  obtain ⟨y1, hy⟩ : ∃ q_, q_ = setF (Alu.bitF x (getY z y) y.s.r.f) (getS z y) := ⟨_, rfl⟩
  rw [← hy] at s'
  have Y1 := Lib.hid hy
  clear hc hf
  obtain ⟨hc, hf⟩ := s'.cp
  have S1 := Lib.hid s'
  clear s' m' hy
  go_wp2
  first | go_end0 | refine bodyPost_ret (results_none rfl _ _ _) rfl ?_
  refine ⟨rfl, v1, ?_, M1.out⟩
  have q := S1.out
  have e := Y1.out.symm
  subst e
  exact Sys.mono (n' := n + 1) q (by omega)
set_option maxHeartbeats 2000000 in
theorem calc_45 (h0 : Sys procD ramC w P R M tb v y n) (hn : n < 960000) (x z s nn : Int) (x0 : 0 ≤ x) (x1 : x < 8) : Calls Tryz.prog 82 #[.pointer (some ⟨P, 0, none⟩), .agg #[.int .i64 45, .int .i64 x, .int .i64 z, .int .i64 s, .int .u16 nn]] w (PE procD ramC P R M tb v w (.tuple #[]) (putS z (clr (getY z y) x.toNat) (getS z y)) (n + 2)) := by
  have S0 := Lib.hid (h0.below (own1 w (.cells #[.int .i64 45, .int .i64 x, .int .i64 z, .int .i64 s, .int .u16 nn] 44)))
  have M0 := Lib.hid (show PM P R M tb v w v (w.alloc (.cells #[.int .i64 45, .int .i64 x, .int .i64 z, .int .i64 s, .int .u16 nn] 44)) from PM.of (own1 w (.cells #[.int .i64 45, .int .i64 x, .int .i64 z, .int .i64 s, .int .u16 nn] 44)))
  have HO := Lib.hid (Has.new w #[.int .i64 45, .int .i64 x, .int .i64 z, .int .i64 s, .int .u16 nn] 44)
  have NO := Lib.hid (h0.new (Nat.le_refl w.heap.size))
  obtain ⟨hc, hf⟩ := S0.out.cp
  clear h0
  go_enter Tryz.func82, Tryz.ntmps82
  go_wp2_with fail
  generalize w.alloc (.cells #[.int .i64 45, .int .i64 x, .int .i64 z, .int .i64 s, .int .u16 nn] 44) = w0 at S0 M0 HO hc hf ⊢
  generalize w.heap.size = ob at HO NO ⊢
  have ho := HO.out.2.1
  with_reducible refine (pre_45 S0.out (by omega) x z s nn x0 x1).mono ?_
  rintro e w1 ⟨rfl, v1, s', m'⟩
  have HO' := Lib.hid (m'.has HO.out NO.out)
  have NO' := Lib.hid (m'.far HO.out.1 NO.out)
  clear ho HO NO
  have HO := HO'
  have NO := NO'
  clear HO' NO'
  have ho := HO.out.2.1
  have M1 := Lib.hid (M0.out.trans m')
  obtain ⟨y1, hy⟩ : ∃ q_, q_ = putS z (clr (getY z y) x.toNat) (getS z y) := ⟨_, rfl⟩
  rw [← hy] at s'
  have Y1 := Lib.hid hy
  clear hc hf
  obtain ⟨hc, hf⟩ := s'.cp
  have S1 := Lib.hid s'
  clear s' m' hy
  go_wp2
  first | go_end0 | refine bodyPost_ret (results_none rfl _ _ _) rfl ?_
  refine ⟨rfl, v1, ?_, M1.out⟩
  have q := S1.out
  have e := Y1.out.symm
  subst e
  exact Sys.mono (n' := n + 2) q (by omega)
set_option maxHeartbeats 2000000 in
theorem calc_46 (h0 : Sys procD ramC w P R M tb v y n) (hn : n < 960000) (x z s nn : Int) (x0 : 0 ≤ x) (x1 : x < 8) : Calls Tryz.prog 82 #[.pointer (some ⟨P, 0, none⟩), .agg #[.int .i64 46, .int .i64 x, .int .i64 z, .int .i64 s, .int .u16 nn]] w (PE procD ramC P R M tb v w (.tuple #[]) (putS z (put (getY z y) x.toNat) (getS z y)) (n + 2)) := by
  have S0 := Lib.hid (h0.below (own1 w (.cells #[.int .i64 46, .int .i64 x, .int .i64 z, .int .i64 s, .int .u16 nn] 44)))
  have M0 := Lib.hid (show PM P R M tb v w v (w.alloc (.cells #[.int .i64 46, .int .i64 x, .int .i64 z, .int .i64 s, .int .u16 nn] 44)) from PM.of (own1 w (.cells #[.int .i64 46, .int .i64 x, .int .i64 z, .int .i64 s, .int .u16 nn] 44)))
  have HO := Lib.hid (Has.new w #[.int .i64 46, .int .i64 x, .int .i64 z, .int .i64 s, .int .u16 nn] 44)
  have NO := Lib.hid (h0.new (Nat.le_refl w.heap.size))
  obtain ⟨hc, hf⟩ := S0.out.cp
  clear h0
  go_enter Tryz.func82, Tryz.ntmps82
  go_wp2_with fail
  generalize w.alloc (.cells #[.int .i64 46, .int .i64 x, .int .i64 z, .int .i64 s, .int .u16 nn] 44) = w0 at S0 M0 HO hc hf ⊢
  generalize w.heap.size = ob at HO NO ⊢
  have ho := HO.out.2.1
  with_reducible refine (pre_46 S0.out (by omega) x z s nn x0 x1).mono ?_
  rintro e w1 ⟨rfl, v1, s', m'⟩
  have HO' := Lib.hid (m'.has HO.out NO.out)
  have NO' := Lib.hid (m'.far HO.out.1 NO.out)
  clear ho HO NO
  have HO := HO'
  have NO := NO'
  clear HO' NO'
  have ho := HO.out.2.1
  have M1 := Lib.hid (M0.out.trans m')
  obtain ⟨y1, hy⟩ : ∃ q_, q_ = putS z (put (getY z y) x.toNat) (getS z y) := ⟨_, rfl⟩
  rw [← hy] at s'
  have Y1 := Lib.hid hy
  clear hc hf
  obtain ⟨hc, hf⟩ := s'.cp
  have S1 := Lib.hid s'
  clear s' m' hy
  go_wp2
  first | go_end0 | refine bodyPost_ret (results_none rfl _ _ _) rfl ?_
  refine ⟨rfl, v1, ?_, M1.out⟩
  have q := S1.out
  have e := Y1.out.symm
  subst e
  exact Sys.mono (n' := n + 2) q (by omega)
set_option maxHeartbeats 2000000 in
theorem calc_14 (h0 : Sys procD ramC w P R M tb v y n) (hn : n < 960000) (x z s nn : Int) : Calls Tryz.prog 82 #[.pointer (some ⟨P, 0, none⟩), .agg #[.int .i64 14, .int .i64 x, .int .i64 z, .int .i64 s, .int .u16 nn]] w (PE procD ramC P R M tb v w (.tuple #[]) (pairS x (up (pairV y.s.r x)) (idle y)) (n + 1)) := by
  have S0 := Lib.hid (h0.below (own1 w (.cells #[.int .i64 14, .int .i64 x, .int .i64 z, .int .i64 s, .int .u16 nn] 44)))
  have M0 := Lib.hid (show PM P R M tb v w v (w.alloc (.cells #[.int .i64 14, .int .i64 x, .int .i64 z, .int .i64 s, .int .u16 nn] 44)) from PM.of (own1 w (.cells #[.int .i64 14, .int .i64 x, .int .i64 z, .int .i64 s, .int .u16 nn] 44)))
  have HO := Lib.hid (Has.new w #[.int .i64 14, .int .i64 x, .int .i64 z, .int .i64 s, .int .u16 nn] 44)
  have NO := Lib.hid (h0.new (Nat.le_refl w.heap.size))
  obtain ⟨hc, hf⟩ := S0.out.cp
  clear h0
  go_enter Tryz.func82, Tryz.ntmps82
  go_wp2_with fail
  generalize w.alloc (.cells #[.int .i64 14, .int .i64 x, .int .i64 z, .int .i64 s, .int .u16 nn] 44) = w0 at S0 M0 HO hc hf ⊢
  generalize w.heap.size = ob at HO NO ⊢
  have ho := HO.out.2.1
  with_reducible refine (words_14 S0.out (by omega) x z s nn).mono ?_
  rintro e w1 ⟨rfl, v1, s', m'⟩
  have HO' := Lib.hid (m'.has HO.out NO.out)
  have NO' := Lib.hid (m'.far HO.out.1 NO.out)
  clear ho HO NO
  have HO := HO'
  have NO := NO'
  clear HO' NO'
  have ho := HO.out.2.1
  have M1 := Lib.hid (M0.out.trans m')
  obtain ⟨y1, hy⟩ : ∃ q_, q_ = pairS x (up (pairV y.s.r x)) (idle y) := ⟨_, rfl⟩
  rw [← hy] at s'
  have Y1 := Lib.hid hy
  clear hc hf
  obtain ⟨hc, hf⟩ := s'.cp
  have S1 := Lib.hid s'
  clear s' m' hy
  go_wp2
  first | go_end0 | refine bodyPost_ret (results_none rfl _ _ _) rfl ?_
  refine ⟨rfl, v1, ?_, M1.out⟩
  have q := S1.out
  have e := Y1.out.symm
  subst e
  exact Sys.mono (n' := n + 1) q (by omega)
set_option maxHeartbeats 2000000 in
theorem calc_15 (h0 : Sys procD ramC w P R M tb v y n) (hn : n < 960000) (x z s nn : Int) : Calls Tryz.prog 82 #[.pointer (some ⟨P, 0, none⟩), .agg #[.int .i64 15, .int .i64 x, .int .i64 z, .int .i64 s, .int .u16 nn]] w (PE procD ramC P R M tb v w (.tuple #[]) (pairS x (dn (pairV y.s.r x)) (idle y)) (n + 1)) := by
  have S0 := Lib.hid (h0.below (own1 w (.cells #[.int .i64 15, .int .i64 x, .int .i64 z, .int .i64 s, .int .u16 nn] 44)))
  have M0 := Lib.hid (show PM P R M tb v w v (w.alloc (.cells #[.int .i64 15, .int .i64 x, .int .i64 z, .int .i64 s, .int .u16 nn] 44)) from PM.of (own1 w (.cells #[.int .i64 15, .int .i64 x, .int .i64 z, .int .i64 s, .int .u16 nn] 44)))
  have HO := Lib.hid (Has.new w #[.int .i64 15, .int .i64 x, .int .i64 z, .int .i64 s, .int .u16 nn] 44)
  have NO := Lib.hid (h0.new (Nat.le_refl w.heap.size))
  obtain ⟨hc, hf⟩ := S0.out.cp
  clear h0
  go_enter Tryz.func82, Tryz.ntmps82
  go_wp2_with fail
  generalize w.alloc (.cells #[.int .i64 15, .int .i64 x, .int .i64 z, .int .i64 s, .int .u16 nn] 44) = w0 at S0 M0 HO hc hf ⊢
  generalize w.heap.size = ob at HO NO ⊢
  have ho := HO.out.2.1
  with_reducible refine (words_15 S0.out (by omega) x z s nn).mono ?_
  rintro e w1 ⟨rfl, v1, s', m'⟩
  have HO' := Lib.hid (m'.has HO.out NO.out)
  have NO' := Lib.hid (m'.far HO.out.1 NO.out)
  clear ho HO NO
  have HO := HO'
  have NO := NO'
  clear HO' NO'
  have ho := HO.out.2.1
  have M1 := Lib.hid (M0.out.trans m')
  obtain ⟨y1, hy⟩ : ∃ q_, q_ = pairS x (dn (pairV y.s.r x)) (idle y) := ⟨_, rfl⟩
  rw [← hy] at s'
  have Y1 := Lib.hid hy
  clear hc hf
  obtain ⟨hc, hf⟩ := s'.cp
  have S1 := Lib.hid s'
  clear s' m' hy
  go_wp2
  first | go_end0 | refine bodyPost_ret (results_none rfl _ _ _) rfl ?_
  refine ⟨rfl, v1, ?_, M1.out⟩
  have q := S1.out
  have e := Y1.out.symm
  subst e
  exact Sys.mono (n' := n + 1) q (by omega)
set_option maxHeartbeats 2000000 in
theorem calc_16 (h0 : Sys procD ramC w P R M tb v y n) (hn : n < 960000) (x z s nn : Int) : Calls Tryz.prog 82 #[.pointer (some ⟨P, 0, none⟩), .agg #[.int .i64 16, .int .i64 x, .int .i64 z, .int .i64 s, .int .u16 nn]] w (PE procD ramC P R M tb v w (.tuple #[]) (setF (Alu.add16F (hlV y) (pairV y.s.r x) y.s.r.f) (pairS 2 ((hlV y + pairV y.s.r x) % 65536) (idle y))) (n + 1)) := by
  have S0 := Lib.hid (h0.below (own1 w (.cells #[.int .i64 16, .int .i64 x, .int .i64 z, .int .i64 s, .int .u16 nn] 44)))
  have M0 := Lib.hid (show PM P R M tb v w v (w.alloc (.cells #[.int .i64 16, .int .i64 x, .int .i64 z, .int .i64 s, .int .u16 nn] 44)) from PM.of (own1 w (.cells #[.int .i64 16, .int .i64 x, .int .i64 z, .int .i64 s, .int .u16 nn] 44)))
  have HO := Lib.hid (Has.new w #[.int .i64 16, .int .i64 x, .int .i64 z, .int .i64 s, .int .u16 nn] 44)
  have NO := Lib.hid (h0.new (Nat.le_refl w.heap.size))
  obtain ⟨hc, hf⟩ := S0.out.cp
  clear h0
  go_enter Tryz.func82, Tryz.ntmps82
  go_wp2_with fail
  generalize w.alloc (.cells #[.int .i64 16, .int .i64 x, .int .i64 z, .int .i64 s, .int .u16 nn] 44) = w0 at S0 M0 HO hc hf ⊢
  generalize w.heap.size = ob at HO NO ⊢
  have ho := HO.out.2.1
  with_reducible refine (words_16 S0.out (by omega) x z s nn).mono ?_
  rintro e w1 ⟨rfl, v1, s', m'⟩
  have HO' := Lib.hid (m'.has HO.out NO.out)
  have NO' := Lib.hid (m'.far HO.out.1 NO.out)
  clear ho HO NO
  have HO := HO'
  have NO := NO'
  clear HO' NO'
  have ho := HO.out.2.1
  have M1 := Lib.hid (M0.out.trans m')
  obtain ⟨y1, hy⟩ : ∃ q_, q_ = setF (Alu.add16F (hlV y) (pairV y.s.r x) y.s.r.f) (pairS 2 ((hlV y + pairV y.s.r x) % 65536) (idle y)) := ⟨_, rfl⟩
  rw [← hy] at s'
  have Y1 := Lib.hid hy
  clear hc hf
  obtain ⟨hc, hf⟩ := s'.cp
  have S1 := Lib.hid s'
  clear s' m' hy
  go_wp2
  first | go_end0 | refine bodyPost_ret (results_none rfl _ _ _) rfl ?_
  refine ⟨rfl, v1, ?_, M1.out⟩
  have q := S1.out
  have e := Y1.out.symm
  subst e
  exact Sys.mono (n' := n + 1) q (by omega)
set_option maxHeartbeats 2000000 in
theorem calc_41 (h0 : Sys procD ramC w P R M tb v y n) (hn : n < 960000) (x z s nn : Int) : Calls Tryz.prog 82 #[.pointer (some ⟨P, 0, none⟩), .agg #[.int .i64 41, .int .i64 x, .int .i64 z, .int .i64 s, .int .u16 nn]] w (PE procD ramC P R M tb v w (.tuple #[]) (setF (Alu.shiftF y.s.r.sp (nn % 256)) (setSP (Alu.shiftR y.s.r.sp (nn % 256)) (idle (idle y)))) (n + 2)) := by
  have S0 := Lib.hid (h0.below (own1 w (.cells #[.int .i64 41, .int .i64 x, .int .i64 z, .int .i64 s, .int .u16 nn] 44)))
  have M0 := Lib.hid (show PM P R M tb v w v (w.alloc (.cells #[.int .i64 41, .int .i64 x, .int .i64 z, .int .i64 s, .int .u16 nn] 44)) from PM.of (own1 w (.cells #[.int .i64 41, .int .i64 x, .int .i64 z, .int .i64 s, .int .u16 nn] 44)))
  have HO := Lib.hid (Has.new w #[.int .i64 41, .int .i64 x, .int .i64 z, .int .i64 s, .int .u16 nn] 44)
  have NO := Lib.hid (h0.new (Nat.le_refl w.heap.size))
  obtain ⟨hc, hf⟩ := S0.out.cp
  clear h0
  go_enter Tryz.func82, Tryz.ntmps82
  go_wp2_with fail
  generalize w.alloc (.cells #[.int .i64 41, .int .i64 x, .int .i64 z, .int .i64 s, .int .u16 nn] 44) = w0 at S0 M0 HO hc hf ⊢
  generalize w.heap.size = ob at HO NO ⊢
  have ho := HO.out.2.1
  with_reducible refine (words_41 S0.out (by omega) x z s nn).mono ?_
  rintro e w1 ⟨rfl, v1, s', m'⟩
  have HO' := Lib.hid (m'.has HO.out NO.out)
  have NO' := Lib.hid (m'.far HO.out.1 NO.out)
  clear ho HO NO
  have HO := HO'
  have NO := NO'
  clear HO' NO'
  have ho := HO.out.2.1
  have M1 := Lib.hid (M0.out.trans m')
  obtain ⟨y1, hy⟩ : ∃ q_, q_ = setF (Alu.shiftF y.s.r.sp (nn % 256)) (setSP (Alu.shiftR y.s.r.sp (nn % 256)) (idle (idle y))) := ⟨_, rfl⟩
  rw [← hy] at s'
  have Y1 := Lib.hid hy
  clear hc hf
  obtain ⟨hc, hf⟩ := s'.cp
  have S1 := Lib.hid s'
  clear s' m' hy
  go_wp2
  first | go_end0 | refine bodyPost_ret (results_none rfl _ _ _) rfl ?_
  refine ⟨rfl, v1, ?_, M1.out⟩
  have q := S1.out
  have e := Y1.out.symm
  subst e
  exact Sys.mono (n' := n + 2) q (by omega)
set_option maxHeartbeats 2000000 in
theorem calc_42 (h0 : Sys procD ramC w P R M tb v y n) (hn : n < 960000) (x z s nn : Int) : Calls Tryz.prog 82 #[.pointer (some ⟨P, 0, none⟩), .agg #[.int .i64 42, .int .i64 x, .int .i64 z, .int .i64 s, .int .u16 nn]] w (PE procD ramC P R M tb v w (.tuple #[]) (setF (Alu.shiftF y.s.r.sp (nn % 256)) (pairS 2 (Alu.shiftR y.s.r.sp (nn % 256)) (idle y))) (n + 1)) := by
  have S0 := Lib.hid (h0.below (own1 w (.cells #[.int .i64 42, .int .i64 x, .int .i64 z, .int .i64 s, .int .u16 nn] 44)))
  have M0 := Lib.hid (show PM P R M tb v w v (w.alloc (.cells #[.int .i64 42, .int .i64 x, .int .i64 z, .int .i64 s, .int .u16 nn] 44)) from PM.of (own1 w (.cells #[.int .i64 42, .int .i64 x, .int .i64 z, .int .i64 s, .int .u16 nn] 44)))
  have HO := Lib.hid (Has.new w #[.int .i64 42, .int .i64 x, .int .i64 z, .int .i64 s, .int .u16 nn] 44)
  have NO := Lib.hid (h0.new (Nat.le_refl w.heap.size))
  obtain ⟨hc, hf⟩ := S0.out.cp
  clear h0
  go_enter Tryz.func82, Tryz.ntmps82
  go_wp2_with fail
  generalize w.alloc (.cells #[.int .i64 42, .int .i64 x, .int .i64 z, .int .i64 s, .int .u16 nn] 44) = w0 at S0 M0 HO hc hf ⊢
  generalize w.heap.size = ob at HO NO ⊢
  have ho := HO.out.2.1
  with_reducible refine (words_42 S0.out (by omega) x z s nn).mono ?_
  rintro e w1 ⟨rfl, v1, s', m'⟩
  have HO' := Lib.hid (m'.has HO.out NO.out)
  have NO' := Lib.hid (m'.far HO.out.1 NO.out)
  clear ho HO NO
  have HO := HO'
  have NO := NO'
  clear HO' NO'
  have ho := HO.out.2.1
  have M1 := Lib.hid (M0.out.trans m')
  obtain ⟨y1, hy⟩ : ∃ q_, q_ = setF (Alu.shiftF y.s.r.sp (nn % 256)) (pairS 2 (Alu.shiftR y.s.r.sp (nn % 256)) (idle y)) := ⟨_, rfl⟩
  rw [← hy] at s'
  have Y1 := Lib.hid hy
  clear hc hf
  obtain ⟨hc, hf⟩ := s'.cp
  have S1 := Lib.hid s'
  clear s' m' hy
  go_wp2
  first | go_end0 | refine bodyPost_ret (results_none rfl _ _ _) rfl ?_
  refine ⟨rfl, v1, ?_, M1.out⟩
  have q := S1.out
  have e := Y1.out.symm
  subst e
  exact Sys.mono (n' := n + 1) q (by omega)
set_option maxHeartbeats 2000000 in
theorem calc_1 (h0 : Sys procD ramC w P R M tb v y n) (hn : n < 960000) (x z s nn : Int) : Calls Tryz.prog 82 #[.pointer (some ⟨P, 0, none⟩), .agg #[.int .i64 1, .int .i64 x, .int .i64 z, .int .i64 s, .int .u16 nn]] w (PE procD ramC P R M tb v w (.tuple #[]) (y) (n + 0)) := by
  have S0 := Lib.hid (h0.below (own1 w (.cells #[.int .i64 1, .int .i64 x, .int .i64 z, .int .i64 s, .int .u16 nn] 44)))
  have M0 := Lib.hid (show PM P R M tb v w v (w.alloc (.cells #[.int .i64 1, .int .i64 x, .int .i64 z, .int .i64 s, .int .u16 nn] 44)) from PM.of (own1 w (.cells #[.int .i64 1, .int .i64 x, .int .i64 z, .int .i64 s, .int .u16 nn] 44)))
  have HO := Lib.hid (Has.new w #[.int .i64 1, .int .i64 x, .int .i64 z, .int .i64 s, .int .u16 nn] 44)
  have NO := Lib.hid (h0.new (Nat.le_refl w.heap.size))
  obtain ⟨hc, hf⟩ := S0.out.cp
  clear h0
  go_enter Tryz.func82, Tryz.ntmps82
  go_wp2
  first | go_end0 | refine bodyPost_ret (results_none rfl _ _ _) rfl ?_
  exact ⟨rfl, v, S0.out, M0.out⟩
set_option maxHeartbeats 2000000 in
theorem calc_18 (h0 : Sys procD ramC w P R M tb v y n) (hn : n < 960000) (x z s nn : Int) : Calls Tryz.prog 82 #[.pointer (some ⟨P, 0, none⟩), .agg #[.int .i64 18, .int .i64 x, .int .i64 z, .int .i64 s, .int .u16 nn]] w (PE procD ramC P R M tb v w (.tuple #[]) (setF (Alu.fl 16 (Alu.turnO x y.s.r.a)) (setA (Alu.turnR x y.s.r.a y.s.r.f) y)) (n + 0)) := by
  have ab := h0.ab
  have fb := h0.fb
  have S0 := Lib.hid (h0.below (own1 w (.cells #[.int .i64 18, .int .i64 x, .int .i64 z, .int .i64 s, .int .u16 nn] 44)))
  have M0 := Lib.hid (show PM P R M tb v w v (w.alloc (.cells #[.int .i64 18, .int .i64 x, .int .i64 z, .int .i64 s, .int .u16 nn] 44)) from PM.of (own1 w (.cells #[.int .i64 18, .int .i64 x, .int .i64 z, .int .i64 s, .int .u16 nn] 44)))
  have HO := Lib.hid (Has.new w #[.int .i64 18, .int .i64 x, .int .i64 z, .int .i64 s, .int .u16 nn] 44)
  have NO := Lib.hid (h0.new (Nat.le_refl w.heap.size))
  obtain ⟨hc, hf⟩ := S0.out.cp
  clear h0
  go_enter Tryz.func82, Tryz.ntmps82
  go_wp2
  generalize w.alloc (.cells #[.int .i64 18, .int .i64 x, .int .i64 z, .int .i64 s, .int .u16 nn] 44) = w0 at S0 M0 HO hc hf ⊢
  generalize w.heap.size = ob at HO NO ⊢
  have ho := HO.out.2.1
  have S0' := Lib.hid S0.out.drew
  have M0' := Lib.hid (M0.out.trans (PM.drew P R M tb v w0))
  have HO' := Lib.hid HO.out.drew
  clear ho HO
  have HO := HO'
  clear HO'
  clear hc hf
  refine wp_region_held_drew (S := (fun w' => (∀ j, w'.cell? ⟨ob, j, none⟩ = #[Value.int .i64 18, .int .i64 x, .int .i64 z, .int .i64 s, .int .u16 nn][j]?) ∧ True)) (by kernel_rfl) ⟨HO.out.2.1, trivial⟩ (fun hHeld => ?_)
  generalize World.drew w0 = u0 at hHeld S0' M0' HO ⊢
  clear S0 M0
  have S0 := S0'
  have M0 := M0'
  clear S0' M0'
  refine wpAnyH_take (i := 0) (oi := { dst := some 57, op := Go.Op.move (Go.Operand.tmp 0), type := 94, pos := "calculate.go:26", after := #[], guard := none }) (v := ?v1) rfl (by kernel_rfl) (by kernel_rfl) (by kernel_rfl) (fun _ _ _ h => h) (Or.inl ⟨by rfl, ?y1⟩) (by assumption) ?z1
  case y1 => (intro w hSw; (try dsimp only at hSw); go_simp) <;> with_reducible rfl
  try simp only [Act.put, List.setIfInBounds_toArray, List.set_cons_zero, List.set_cons_succ]
  refine wpAnyH_take (i := 1) (oi := { dst := some 58, op := Go.Op.move (Go.Operand.tmp 0), type := 94, pos := "calculate.go:26", after := #[{ on := 24, ground := Go.Ground.gcOnly Go.Departure.lateStores }], guard := none }) (v := ?v2) rfl (by kernel_rfl) (by kernel_rfl) (by kernel_rfl) (fun _ _ _ h => h) (Or.inl ⟨by rfl, ?y2⟩) (by assumption) ?z2
  case y2 => (intro w hSw; (try dsimp only at hSw); go_simp) <;> with_reducible rfl
  try simp only [Act.put, List.setIfInBounds_toArray, List.set_cons_zero, List.set_cons_succ]
  refine wpAnyH_take (i := 2) (oi := { dst := some 59, op := Go.Op.fieldAddr 44 (Go.Operand.tmp 3) 1, type := 0, pos := "calculate.go:26", after := #[], guard := none }) (v := ?v3) rfl (by kernel_rfl) (by kernel_rfl) (by kernel_rfl) (fun _ _ _ h => h) (Or.inl ⟨by rfl, ?y3⟩) (by assumption) ?z3
  case y3 => (intro w hSw; (try dsimp only at hSw); go_simp) <;> with_reducible rfl
  try simp only [Act.put, List.setIfInBounds_toArray, List.set_cons_zero, List.set_cons_succ]
  refine wpAnyH_take (i := 3) (oi := { dst := some 60, op := Go.Op.load 3 (Go.Operand.tmp 59), type := 3, pos := "calculate.go:26", after := #[{ on := 2, ground := Go.Ground.data }], guard := none }) (v := ?v4) rfl (by kernel_rfl) (by kernel_rfl) (by kernel_rfl) (fun _ _ _ h => h) (Or.inl ⟨by rfl, ?y4⟩) (by assumption) ?z4
  case y4 => (intro w hSw; (try dsimp only at hSw); go_simp) <;> with_reducible rfl
  try simp only [Act.put, List.setIfInBounds_toArray, List.set_cons_zero, List.set_cons_succ]
  refine wpAnyH_take (i := 4) (oi := { dst := some 61, op := Go.Op.move (Go.Operand.tmp 0), type := 94, pos := "calculate.go:26", after := #[], guard := none }) (v := ?v5) rfl (by kernel_rfl) (by kernel_rfl) (by kernel_rfl) (fun _ _ _ h => h) (Or.inl ⟨by rfl, ?y5⟩) (by assumption) ?z5
  case y5 => (intro w hSw; (try dsimp only at hSw); go_simp) <;> with_reducible rfl
  try simp only [Act.put, List.setIfInBounds_toArray, List.set_cons_zero, List.set_cons_succ]
  refine wpAnyH_take (i := 5) (oi := { dst := some 62, op := Go.Op.nilCheck (Go.Operand.tmp 61), type := 0, pos := "calculate.go:26", after := #[{ on := 4, ground := Go.Ground.data }], guard := none }) (v := ?v6) rfl (by kernel_rfl) (by kernel_rfl) (by kernel_rfl) (fun _ _ _ h => h) (Or.inl ⟨by rfl, ?y6⟩) (by assumption) ?z6
  case y6 => (intro w hSw; (try dsimp only at hSw); go_simp) <;> with_reducible rfl
  try simp only [Act.put, List.setIfInBounds_toArray, List.set_cons_zero, List.set_cons_succ]
  refine wpAnyH_take (i := 6) (oi := { dst := some 63, op := Go.Op.fieldAddr 85 (Go.Operand.tmp 62) 0, type := 0, pos := "calculate.go:26", after := #[{ on := 5, ground := Go.Ground.data }], guard := none }) (v := ?v7) rfl (by kernel_rfl) (by kernel_rfl) (by kernel_rfl) (fun _ _ _ h => h) (Or.inl ⟨by rfl, ?y7⟩) (by assumption) ?z7
  case y7 => (intro w hSw; (try dsimp only at hSw); go_simp) <;> with_reducible rfl
  try simp only [Act.put, List.setIfInBounds_toArray, List.set_cons_zero, List.set_cons_succ]
  refine wpAnyH_take (i := 7) (oi := { dst := some 64, op := Go.Op.fieldAddr 41 (Go.Operand.tmp 63) 0, type := 0, pos := "calculate.go:26", after := #[{ on := 6, ground := Go.Ground.data }], guard := none }) (v := ?v8) rfl (by kernel_rfl) (by kernel_rfl) (by kernel_rfl) (fun _ _ _ h => h) (Or.inl ⟨by rfl, ?y8⟩) (by assumption) ?z8
  case y8 => (intro w hSw; (try dsimp only at hSw); go_simp) <;> with_reducible rfl
  try simp only [Act.put, List.setIfInBounds_toArray, List.set_cons_zero, List.set_cons_succ]
  refine wpAnyH_take (i := 8) (oi := { dst := some 65, op := Go.Op.fieldAddr 39 (Go.Operand.tmp 64) 0, type := 0, pos := "calculate.go:26", after := #[{ on := 7, ground := Go.Ground.data }], guard := none }) (v := ?v9) rfl (by kernel_rfl) (by kernel_rfl) (by kernel_rfl) (fun _ _ _ h => h) (Or.inl ⟨by rfl, ?y9⟩) (by assumption) ?z9
  case y9 => (intro w hSw; (try dsimp only at hSw); go_simp) <;> with_reducible rfl
  try simp only [Act.put, List.setIfInBounds_toArray, List.set_cons_zero, List.set_cons_succ]
  refine wpAnyH_take (i := 10) (oi := { dst := some 67, op := Go.Op.move (Go.Operand.tmp 0), type := 94, pos := "calculate.go:26", after := #[], guard := none }) (v := ?v10) rfl (by kernel_rfl) (by kernel_rfl) (by kernel_rfl) (fun _ _ _ h => h) (Or.inl ⟨by rfl, ?y10⟩) (by assumption) ?z10
  case y10 => (intro w hSw; (try dsimp only at hSw); go_simp) <;> with_reducible rfl
  try simp only [Act.put, List.setIfInBounds_toArray, List.set_cons_zero, List.set_cons_succ]
  refine wpAnyH_take (i := 11) (oi := { dst := some 68, op := Go.Op.nilCheck (Go.Operand.tmp 67), type := 0, pos := "calculate.go:26", after := #[{ on := 10, ground := Go.Ground.data }], guard := none }) (v := ?v11) rfl (by kernel_rfl) (by kernel_rfl) (by kernel_rfl) (fun _ _ _ h => h) (Or.inl ⟨by rfl, ?y11⟩) (by assumption) ?z11
  case y11 => (intro w hSw; (try dsimp only at hSw); go_simp) <;> with_reducible rfl
  try simp only [Act.put, List.setIfInBounds_toArray, List.set_cons_zero, List.set_cons_succ]
  refine wpAnyH_take (i := 12) (oi := { dst := some 69, op := Go.Op.fieldAddr 85 (Go.Operand.tmp 68) 0, type := 0, pos := "calculate.go:26", after := #[{ on := 11, ground := Go.Ground.data }], guard := none }) (v := ?v12) rfl (by kernel_rfl) (by kernel_rfl) (by kernel_rfl) (fun _ _ _ h => h) (Or.inl ⟨by rfl, ?y12⟩) (by assumption) ?z12
  case y12 => (intro w hSw; (try dsimp only at hSw); go_simp) <;> with_reducible rfl
  try simp only [Act.put, List.setIfInBounds_toArray, List.set_cons_zero, List.set_cons_succ]
  refine wpAnyH_take (i := 13) (oi := { dst := some 70, op := Go.Op.fieldAddr 41 (Go.Operand.tmp 69) 0, type := 0, pos := "calculate.go:26", after := #[{ on := 12, ground := Go.Ground.data }], guard := none }) (v := ?v13) rfl (by kernel_rfl) (by kernel_rfl) (by kernel_rfl) (fun _ _ _ h => h) (Or.inl ⟨by rfl, ?y13⟩) (by assumption) ?z13
  case y13 => (intro w hSw; (try dsimp only at hSw); go_simp) <;> with_reducible rfl
  try simp only [Act.put, List.setIfInBounds_toArray, List.set_cons_zero, List.set_cons_succ]
  refine wpAnyH_take (i := 14) (oi := { dst := some 71, op := Go.Op.fieldAddr 39 (Go.Operand.tmp 70) 1, type := 0, pos := "calculate.go:26", after := #[{ on := 13, ground := Go.Ground.data }], guard := none }) (v := ?v14) rfl (by kernel_rfl) (by kernel_rfl) (by kernel_rfl) (fun _ _ _ h => h) (Or.inl ⟨by rfl, ?y14⟩) (by assumption) ?z14
  case y14 => (intro w hSw; (try dsimp only at hSw); go_simp) <;> with_reducible rfl
  try simp only [Act.put, List.setIfInBounds_toArray, List.set_cons_zero, List.set_cons_succ]
  refine wpAnyH_ready (rs := [9, 15]) (by kernel_rfl) (by simp) ?_
  refine (AllReadyH.cons (o := { dst := some 66, op := Go.Op.load 5 (Go.Operand.tmp 65), type := 5, pos := "calculate.go:26", after := #[{ on := 8, ground := Go.Ground.data }], guard := none }) rfl (fun K hK => ?_) (AllReadyH.cons (o := { dst := some 72, op := Go.Op.load 5 (Go.Operand.tmp 71), type := 5, pos := "calculate.go:26", after := #[{ on := 14, ground := Go.Ground.data }], guard := none }) rfl (fun K hK => ?_) AllReadyH.nil))
  · skip
    obtain ⟨hc, hf⟩ := S0.out.cp
    go_simp
    clear hc hf
    refine hK.out _ _ ?s15 (fun hNew => ?r15)
    case s15 => exact hHeld
    clear hK K hHeld
    have hHeld := hNew
    clear hNew
    try simp only [Act.put, List.setIfInBounds_toArray, List.set_cons_zero, List.set_cons_succ]
    refine wpAnyH_ready (rs := [15]) (by kernel_rfl) (by simp) ?_
    refine (AllReadyH.cons (o := { dst := some 72, op := Go.Op.load 5 (Go.Operand.tmp 71), type := 5, pos := "calculate.go:26", after := #[{ on := 14, ground := Go.Ground.data }], guard := none }) rfl (fun K hK => ?_) AllReadyH.nil)
    · skip
      obtain ⟨hc, hf⟩ := S0.out.cp
      go_simp
      clear hc hf
      refine hK.out _ _ ?s16 (fun hNew => ?r16)
      case s16 => exact hHeld
      clear hK K hHeld
      have hHeld := hNew
      clear hNew
      try simp only [Act.put, List.setIfInBounds_toArray, List.set_cons_zero, List.set_cons_succ]
      refine wpAnyH_ready (rs := [16]) (by kernel_rfl) (by simp) ?_
      refine (AllReadyH.cons (o := { dst := some 73, op := Go.Op.call { callee := Go.Callee.value (Go.Operand.func 97), args := #[Go.Operand.tmp 60, Go.Operand.tmp 66, Go.Operand.tmp 72], argTypes := #[3, 5, 5] }, type := 105, pos := "calculate.go:26", after := #[{ on := 3, ground := Go.Ground.data }, { on := 9, ground := Go.Ground.data }, { on := 15, ground := Go.Ground.data }], guard := none }) rfl (fun K hK => ?_) AllReadyH.nil)
      · skip
        go_simp
        go_wp2_with (go_at_call 97; (with_reducible refine (Alu.turn_c x y.s.r.a y.s.r.f ab.1 ab.2 fb.1 fb.2 _).mono ?_); rintro e u' ⟨rfl, rfl⟩)
        refine hK.out _ _ ?s17 (fun hNew => ?r17)
        case s17 => exact hHeld
        clear hK K hHeld
        have hHeld := hNew
        clear hNew
        refine wpAnyH_take (i := 17) (oi := { dst := some 56, op := Go.Op.move (Go.Operand.tmp 73), type := 105, pos := "calculate.go:26", after := #[{ on := 16, ground := Go.Ground.data }], guard := none }) (v := ?v18) rfl (by kernel_rfl) (by kernel_rfl) (by kernel_rfl) (fun _ _ _ h => h) (Or.inl ⟨by rfl, ?y18⟩) (by assumption) ?z18
        case y18 => (intro w hSw; (try dsimp only at hSw); go_simp) <;> with_reducible rfl
        try simp only [Act.put, List.setIfInBounds_toArray, List.set_cons_zero, List.set_cons_succ]
        refine wpAnyH_take (i := 18) (oi := { dst := some 74, op := Go.Op.extract (Go.Operand.tmp 56) 0, type := 5, pos := "calculate.go:26", after := #[{ on := 17, ground := Go.Ground.data }], guard := none }) (v := ?v19) rfl (by kernel_rfl) (by kernel_rfl) (by kernel_rfl) (fun _ _ _ h => h) (Or.inl ⟨by rfl, ?y19⟩) (by assumption) ?z19
        case y19 => (intro w hSw; (try dsimp only at hSw); go_simp) <;> with_reducible rfl
        try simp only [Act.put, List.setIfInBounds_toArray, List.set_cons_zero, List.set_cons_succ]
        refine wpAnyH_take (i := 19) (oi := { dst := some 75, op := Go.Op.extract (Go.Operand.tmp 56) 1, type := 5, pos := "calculate.go:26", after := #[{ on := 17, ground := Go.Ground.data }, { on := 24, ground := Go.Ground.gcOnly Go.Departure.lateStores }], guard := none }) (v := ?v20) rfl (by kernel_rfl) (by kernel_rfl) (by kernel_rfl) (fun _ _ _ h => h) (Or.inl ⟨by rfl, ?y20⟩) (by assumption) ?z20
        case y20 => (intro w hSw; (try dsimp only at hSw); go_simp) <;> with_reducible rfl
        try simp only [Act.put, List.setIfInBounds_toArray, List.set_cons_zero, List.set_cons_succ]
        refine wpAnyH_take (i := 20) (oi := { dst := some 76, op := Go.Op.nilCheck (Go.Operand.tmp 57), type := 0, pos := "calculate.go:26", after := #[{ on := 0, ground := Go.Ground.data }, { on := 0, ground := Go.Ground.phase }, { on := 1, ground := Go.Ground.textOnly Go.Departure.lateStores }, { on := 2, ground := Go.Ground.phase }, { on := 3, ground := Go.Ground.phase }, { on := 4, ground := Go.Ground.phase }, { on := 5, ground := Go.Ground.phase }, { on := 6, ground := Go.Ground.phase }, { on := 7, ground := Go.Ground.phase }, { on := 8, ground := Go.Ground.phase }, { on := 9, ground := Go.Ground.phase }, { on := 10, ground := Go.Ground.phase }, { on := 11, ground := Go.Ground.phase }, { on := 12, ground := Go.Ground.phase }, { on := 13, ground := Go.Ground.phase }, { on := 14, ground := Go.Ground.phase }, { on := 15, ground := Go.Ground.phase }, { on := 16, ground := Go.Ground.phase }, { on := 17, ground := Go.Ground.phase }, { on := 18, ground := Go.Ground.phase }, { on := 19, ground := Go.Ground.textOnly Go.Departure.lateStores }], guard := none }) (v := ?v21) rfl (by kernel_rfl) (by kernel_rfl) (by kernel_rfl) (fun _ _ _ h => h) (Or.inl ⟨by rfl, ?y21⟩) (by assumption) ?z21
        case y21 => (intro w hSw; (try dsimp only at hSw); go_simp) <;> with_reducible rfl
        try simp only [Act.put, List.setIfInBounds_toArray, List.set_cons_zero, List.set_cons_succ]
        refine wpAnyH_take (i := 21) (oi := { dst := some 77, op := Go.Op.fieldAddr 85 (Go.Operand.tmp 76) 0, type := 0, pos := "calculate.go:26", after := #[{ on := 20, ground := Go.Ground.data }, { on := 0, ground := Go.Ground.phase }, { on := 1, ground := Go.Ground.textOnly Go.Departure.lateStores }, { on := 2, ground := Go.Ground.phase }, { on := 3, ground := Go.Ground.phase }, { on := 4, ground := Go.Ground.phase }, { on := 5, ground := Go.Ground.phase }, { on := 6, ground := Go.Ground.phase }, { on := 7, ground := Go.Ground.phase }, { on := 8, ground := Go.Ground.phase }, { on := 9, ground := Go.Ground.phase }, { on := 10, ground := Go.Ground.phase }, { on := 11, ground := Go.Ground.phase }, { on := 12, ground := Go.Ground.phase }, { on := 13, ground := Go.Ground.phase }, { on := 14, ground := Go.Ground.phase }, { on := 15, ground := Go.Ground.phase }, { on := 16, ground := Go.Ground.phase }, { on := 17, ground := Go.Ground.phase }, { on := 18, ground := Go.Ground.phase }, { on := 19, ground := Go.Ground.textOnly Go.Departure.lateStores }], guard := none }) (v := ?v22) rfl (by kernel_rfl) (by kernel_rfl) (by kernel_rfl) (fun _ _ _ h => h) (Or.inl ⟨by rfl, ?y22⟩) (by assumption) ?z22
        case y22 => (intro w hSw; (try dsimp only at hSw); go_simp) <;> with_reducible rfl
        try simp only [Act.put, List.setIfInBounds_toArray, List.set_cons_zero, List.set_cons_succ]
        refine wpAnyH_take (i := 22) (oi := { dst := some 78, op := Go.Op.fieldAddr 41 (Go.Operand.tmp 77) 0, type := 0, pos := "calculate.go:26", after := #[{ on := 21, ground := Go.Ground.data }, { on := 0, ground := Go.Ground.phase }, { on := 1, ground := Go.Ground.textOnly Go.Departure.lateStores }, { on := 2, ground := Go.Ground.phase }, { on := 3, ground := Go.Ground.phase }, { on := 4, ground := Go.Ground.phase }, { on := 5, ground := Go.Ground.phase }, { on := 6, ground := Go.Ground.phase }, { on := 7, ground := Go.Ground.phase }, { on := 8, ground := Go.Ground.phase }, { on := 9, ground := Go.Ground.phase }, { on := 10, ground := Go.Ground.phase }, { on := 11, ground := Go.Ground.phase }, { on := 12, ground := Go.Ground.phase }, { on := 13, ground := Go.Ground.phase }, { on := 14, ground := Go.Ground.phase }, { on := 15, ground := Go.Ground.phase }, { on := 16, ground := Go.Ground.phase }, { on := 17, ground := Go.Ground.phase }, { on := 18, ground := Go.Ground.phase }, { on := 19, ground := Go.Ground.textOnly Go.Departure.lateStores }], guard := none }) (v := ?v23) rfl (by kernel_rfl) (by kernel_rfl) (by kernel_rfl) (fun _ _ _ h => h) (Or.inl ⟨by rfl, ?y23⟩) (by assumption) ?z23
        case y23 => (intro w hSw; (try dsimp only at hSw); go_simp) <;> with_reducible rfl
        try simp only [Act.put, List.setIfInBounds_toArray, List.set_cons_zero, List.set_cons_succ]
        refine wpAnyH_take (i := 23) (oi := { dst := some 79, op := Go.Op.fieldAddr 39 (Go.Operand.tmp 78) 0, type := 0, pos := "calculate.go:26", after := #[{ on := 22, ground := Go.Ground.data }, { on := 0, ground := Go.Ground.phase }, { on := 1, ground := Go.Ground.textOnly Go.Departure.lateStores }, { on := 2, ground := Go.Ground.phase }, { on := 3, ground := Go.Ground.phase }, { on := 4, ground := Go.Ground.phase }, { on := 5, ground := Go.Ground.phase }, { on := 6, ground := Go.Ground.phase }, { on := 7, ground := Go.Ground.phase }, { on := 8, ground := Go.Ground.phase }, { on := 9, ground := Go.Ground.phase }, { on := 10, ground := Go.Ground.phase }, { on := 11, ground := Go.Ground.phase }, { on := 12, ground := Go.Ground.phase }, { on := 13, ground := Go.Ground.phase }, { on := 14, ground := Go.Ground.phase }, { on := 15, ground := Go.Ground.phase }, { on := 16, ground := Go.Ground.phase }, { on := 17, ground := Go.Ground.phase }, { on := 18, ground := Go.Ground.phase }, { on := 19, ground := Go.Ground.textOnly Go.Departure.lateStores }], guard := none }) (v := ?v24) rfl (by kernel_rfl) (by kernel_rfl) (by kernel_rfl) (fun _ _ _ h => h) (Or.inl ⟨by rfl, ?y24⟩) (by assumption) ?z24
        case y24 => (intro w hSw; (try dsimp only at hSw); go_simp) <;> with_reducible rfl
        try simp only [Act.put, List.setIfInBounds_toArray, List.set_cons_zero, List.set_cons_succ]
        refine wpAnyH_ready (rs := [24]) (by kernel_rfl) (by simp) ?_
        refine (AllReadyH.cons (o := { dst := none, op := Go.Op.store 5 (Go.Operand.tmp 79) (Go.Operand.tmp 74), type := 0, pos := "calculate.go:26", after := #[{ on := 23, ground := Go.Ground.data }, { on := 18, ground := Go.Ground.data }, { on := 16, ground := Go.Ground.chain }, { on := 0, ground := Go.Ground.phase }, { on := 1, ground := Go.Ground.textOnly Go.Departure.lateStores }, { on := 2, ground := Go.Ground.phase }, { on := 3, ground := Go.Ground.phase }, { on := 4, ground := Go.Ground.phase }, { on := 5, ground := Go.Ground.phase }, { on := 6, ground := Go.Ground.phase }, { on := 7, ground := Go.Ground.phase }, { on := 8, ground := Go.Ground.phase }, { on := 9, ground := Go.Ground.phase }, { on := 10, ground := Go.Ground.phase }, { on := 11, ground := Go.Ground.phase }, { on := 12, ground := Go.Ground.phase }, { on := 13, ground := Go.Ground.phase }, { on := 14, ground := Go.Ground.phase }, { on := 15, ground := Go.Ground.phase }, { on := 16, ground := Go.Ground.phase }, { on := 17, ground := Go.Ground.phase }, { on := 18, ground := Go.Ground.phase }, { on := 19, ground := Go.Ground.textOnly Go.Departure.lateStores }], guard := none }) rfl (fun K hK => ?_) AllReadyH.nil)
        · skip
          obtain ⟨hc, hf⟩ := S0.out.cp
          go_simp
          clear hc hf
          have q := S0.out.stA (Alu.turnR x y.s.r.a y.s.r.f) (turnR_b _ _ _ ab.1 ab.2).1 (turnR_b _ _ _ ab.1 ab.2).2
          have s' := q.1
          have m' := q.2
          clear q
          have HO' := Lib.hid (m'.has HO.out NO.out)
          have NO' := Lib.hid (m'.far HO.out.1 NO.out)
          clear HO NO
          have HO := HO'
          have NO := NO'
          clear HO' NO'
          refine hK.out _ _ ?s25 (fun hNew => ?r25)
          case s25 => exact ⟨HO.out.2.1, trivial⟩
          clear hK K hHeld
          have hHeld := hNew
          clear hNew
          generalize World.setCell u0 ⟨P, 0, none⟩ (.int .u8 (Alu.turnR x y.s.r.a y.s.r.f)) = w1 at hHeld s' m' HO ⊢
          have M1 := Lib.hid (M0.out.trans m')
          obtain ⟨y1, hy⟩ : ∃ q_, q_ = setA (Alu.turnR x y.s.r.a y.s.r.f) y := ⟨_, rfl⟩
          rw [← hy] at s'
          have Y1 := Lib.hid hy
          have S1 := Lib.hid s'
          clear s' m' hy
          refine wpAnyH_take (i := 25) (oi := { dst := some 80, op := Go.Op.nilCheck (Go.Operand.tmp 58), type := 0, pos := "calculate.go:26", after := #[{ on := 1, ground := Go.Ground.data }, { on := 0, ground := Go.Ground.phase }, { on := 1, ground := Go.Ground.phase }, { on := 2, ground := Go.Ground.phase }, { on := 3, ground := Go.Ground.phase }, { on := 4, ground := Go.Ground.phase }, { on := 5, ground := Go.Ground.phase }, { on := 6, ground := Go.Ground.phase }, { on := 7, ground := Go.Ground.phase }, { on := 8, ground := Go.Ground.phase }, { on := 9, ground := Go.Ground.phase }, { on := 10, ground := Go.Ground.phase }, { on := 11, ground := Go.Ground.phase }, { on := 12, ground := Go.Ground.phase }, { on := 13, ground := Go.Ground.phase }, { on := 14, ground := Go.Ground.phase }, { on := 15, ground := Go.Ground.phase }, { on := 16, ground := Go.Ground.phase }, { on := 17, ground := Go.Ground.phase }, { on := 18, ground := Go.Ground.phase }, { on := 19, ground := Go.Ground.phase }, { on := 20, ground := Go.Ground.phase }, { on := 21, ground := Go.Ground.phase }, { on := 22, ground := Go.Ground.phase }, { on := 23, ground := Go.Ground.phase }, { on := 24, ground := Go.Ground.phase }], guard := none }) (v := ?v26) rfl (by kernel_rfl) (by kernel_rfl) (by kernel_rfl) (fun _ _ _ h => h) (Or.inl ⟨by rfl, ?y26⟩) (by assumption) ?z26
          case y26 => (intro w hSw; (try dsimp only at hSw); go_simp) <;> with_reducible rfl
          try simp only [Act.put, List.setIfInBounds_toArray, List.set_cons_zero, List.set_cons_succ]
          refine wpAnyH_take (i := 26) (oi := { dst := some 81, op := Go.Op.fieldAddr 85 (Go.Operand.tmp 80) 0, type := 0, pos := "calculate.go:26", after := #[{ on := 25, ground := Go.Ground.data }, { on := 0, ground := Go.Ground.phase }, { on := 1, ground := Go.Ground.phase }, { on := 2, ground := Go.Ground.phase }, { on := 3, ground := Go.Ground.phase }, { on := 4, ground := Go.Ground.phase }, { on := 5, ground := Go.Ground.phase }, { on := 6, ground := Go.Ground.phase }, { on := 7, ground := Go.Ground.phase }, { on := 8, ground := Go.Ground.phase }, { on := 9, ground := Go.Ground.phase }, { on := 10, ground := Go.Ground.phase }, { on := 11, ground := Go.Ground.phase }, { on := 12, ground := Go.Ground.phase }, { on := 13, ground := Go.Ground.phase }, { on := 14, ground := Go.Ground.phase }, { on := 15, ground := Go.Ground.phase }, { on := 16, ground := Go.Ground.phase }, { on := 17, ground := Go.Ground.phase }, { on := 18, ground := Go.Ground.phase }, { on := 19, ground := Go.Ground.phase }, { on := 20, ground := Go.Ground.phase }, { on := 21, ground := Go.Ground.phase }, { on := 22, ground := Go.Ground.phase }, { on := 23, ground := Go.Ground.phase }, { on := 24, ground := Go.Ground.phase }], guard := none }) (v := ?v27) rfl (by kernel_rfl) (by kernel_rfl) (by kernel_rfl) (fun _ _ _ h => h) (Or.inl ⟨by rfl, ?y27⟩) (by assumption) ?z27
          case y27 => (intro w hSw; (try dsimp only at hSw); go_simp) <;> with_reducible rfl
          try simp only [Act.put, List.setIfInBounds_toArray, List.set_cons_zero, List.set_cons_succ]
          refine wpAnyH_take (i := 27) (oi := { dst := some 82, op := Go.Op.fieldAddr 41 (Go.Operand.tmp 81) 0, type := 0, pos := "calculate.go:26", after := #[{ on := 26, ground := Go.Ground.data }, { on := 0, ground := Go.Ground.phase }, { on := 1, ground := Go.Ground.phase }, { on := 2, ground := Go.Ground.phase }, { on := 3, ground := Go.Ground.phase }, { on := 4, ground := Go.Ground.phase }, { on := 5, ground := Go.Ground.phase }, { on := 6, ground := Go.Ground.phase }, { on := 7, ground := Go.Ground.phase }, { on := 8, ground := Go.Ground.phase }, { on := 9, ground := Go.Ground.phase }, { on := 10, ground := Go.Ground.phase }, { on := 11, ground := Go.Ground.phase }, { on := 12, ground := Go.Ground.phase }, { on := 13, ground := Go.Ground.phase }, { on := 14, ground := Go.Ground.phase }, { on := 15, ground := Go.Ground.phase }, { on := 16, ground := Go.Ground.phase }, { on := 17, ground := Go.Ground.phase }, { on := 18, ground := Go.Ground.phase }, { on := 19, ground := Go.Ground.phase }, { on := 20, ground := Go.Ground.phase }, { on := 21, ground := Go.Ground.phase }, { on := 22, ground := Go.Ground.phase }, { on := 23, ground := Go.Ground.phase }, { on := 24, ground := Go.Ground.phase }], guard := none }) (v := ?v28) rfl (by kernel_rfl) (by kernel_rfl) (by kernel_rfl) (fun _ _ _ h => h) (Or.inl ⟨by rfl, ?y28⟩) (by assumption) ?z28
          case y28 => (intro w hSw; (try dsimp only at hSw); go_simp) <;> with_reducible rfl
          try simp only [Act.put, List.setIfInBounds_toArray, List.set_cons_zero, List.set_cons_succ]
          refine wpAnyH_take (i := 28) (oi := { dst := some 83, op := Go.Op.fieldAddr 39 (Go.Operand.tmp 82) 1, type := 0, pos := "calculate.go:26", after := #[{ on := 27, ground := Go.Ground.data }, { on := 0, ground := Go.Ground.phase }, { on := 1, ground := Go.Ground.phase }, { on := 2, ground := Go.Ground.phase }, { on := 3, ground := Go.Ground.phase }, { on := 4, ground := Go.Ground.phase }, { on := 5, ground := Go.Ground.phase }, { on := 6, ground := Go.Ground.phase }, { on := 7, ground := Go.Ground.phase }, { on := 8, ground := Go.Ground.phase }, { on := 9, ground := Go.Ground.phase }, { on := 10, ground := Go.Ground.phase }, { on := 11, ground := Go.Ground.phase }, { on := 12, ground := Go.Ground.phase }, { on := 13, ground := Go.Ground.phase }, { on := 14, ground := Go.Ground.phase }, { on := 15, ground := Go.Ground.phase }, { on := 16, ground := Go.Ground.phase }, { on := 17, ground := Go.Ground.phase }, { on := 18, ground := Go.Ground.phase }, { on := 19, ground := Go.Ground.phase }, { on := 20, ground := Go.Ground.phase }, { on := 21, ground := Go.Ground.phase }, { on := 22, ground := Go.Ground.phase }, { on := 23, ground := Go.Ground.phase }, { on := 24, ground := Go.Ground.phase }], guard := none }) (v := ?v29) rfl (by kernel_rfl) (by kernel_rfl) (by kernel_rfl) (fun _ _ _ h => h) (Or.inl ⟨by rfl, ?y29⟩) (by assumption) ?z29
          case y29 => (intro w hSw; (try dsimp only at hSw); go_simp) <;> with_reducible rfl
          try simp only [Act.put, List.setIfInBounds_toArray, List.set_cons_zero, List.set_cons_succ]
          refine wpAnyH_ready (rs := [29]) (by kernel_rfl) (by simp) ?_
          refine (AllReadyH.cons (o := { dst := none, op := Go.Op.store 5 (Go.Operand.tmp 83) (Go.Operand.tmp 75), type := 0, pos := "calculate.go:26", after := #[{ on := 28, ground := Go.Ground.data }, { on := 19, ground := Go.Ground.data }, { on := 24, ground := Go.Ground.chain }, { on := 0, ground := Go.Ground.phase }, { on := 1, ground := Go.Ground.phase }, { on := 2, ground := Go.Ground.phase }, { on := 3, ground := Go.Ground.phase }, { on := 4, ground := Go.Ground.phase }, { on := 5, ground := Go.Ground.phase }, { on := 6, ground := Go.Ground.phase }, { on := 7, ground := Go.Ground.phase }, { on := 8, ground := Go.Ground.phase }, { on := 9, ground := Go.Ground.phase }, { on := 10, ground := Go.Ground.phase }, { on := 11, ground := Go.Ground.phase }, { on := 12, ground := Go.Ground.phase }, { on := 13, ground := Go.Ground.phase }, { on := 14, ground := Go.Ground.phase }, { on := 15, ground := Go.Ground.phase }, { on := 16, ground := Go.Ground.phase }, { on := 17, ground := Go.Ground.phase }, { on := 18, ground := Go.Ground.phase }, { on := 19, ground := Go.Ground.phase }, { on := 20, ground := Go.Ground.phase }, { on := 21, ground := Go.Ground.phase }, { on := 22, ground := Go.Ground.phase }, { on := 23, ground := Go.Ground.phase }, { on := 24, ground := Go.Ground.phase }], guard := none }) rfl (fun K hK => ?_) AllReadyH.nil)
          · skip
            obtain ⟨hc, hf⟩ := S1.out.cp
            go_simp
            clear hc hf
            have q := S1.out.stF (Alu.turnF x y.s.r.a y.s.r.f) (Alu.FL_b _ _ _ _).1 (Alu.FL_b _ _ _ _).2
            have s' := q.1
            have m' := q.2
            clear q
            have HO' := Lib.hid (m'.has HO.out NO.out)
            have NO' := Lib.hid (m'.far HO.out.1 NO.out)
            clear HO NO
            have HO := HO'
            have NO := NO'
            clear HO' NO'
            refine hK.out _ _ ?s30 (fun hNew => ?r30)
            case s30 => exact ⟨HO.out.2.1, trivial⟩
            clear hK K hHeld
            have hHeld := hNew
            clear hNew
            generalize World.setCell w1 ⟨P, 1, none⟩ (.int .u8 (Alu.turnF x y.s.r.a y.s.r.f)) = w2 at hHeld s' m' HO ⊢
            have M2 := Lib.hid (M1.out.trans m')
            obtain ⟨y2, hy⟩ : ∃ q_, q_ = setF (Alu.turnF x y.s.r.a y.s.r.f) y1 := ⟨_, rfl⟩
            rw [← hy] at s'
            have Y2 := Lib.hid hy
            have S2 := Lib.hid s'
            clear s' m' hy
            refine wpAnyH_done (by kernel_rfl) ?_ _
            obtain ⟨hc, hf⟩ := S2.out.cp
            have ho := HO.out.2.1
            have tzz := tz x y.s.r.a y.s.r.f
            have ef : y2.s.r.f = Alu.turnF x y.s.r.a y.s.r.f := by rw [Y2.out, Y1.out]; rfl
            rw [ef] at hc
            have EF := Lib.hid ef
            clear ef
            have Q := Lib.hid (S2.out.stF (Alu.fl 16 (Alu.turnO x y.s.r.a)) (Alu.fl_bd 16 (by decide) _).1 (Int.lt_of_le_of_lt (Alu.fl_bd 16 (by decide) _).2 (by decide)))
            go_wp2
            first | go_end0 | refine bodyPost_ret (results_none rfl _ _ _) rfl ?_
            refine ⟨rfl, v, ?_, M2.out.trans Q.out.2⟩
            have q := Q.out.1
            have e1 : setF (Alu.fl 16 (Alu.turnO x y.s.r.a)) (setA (Alu.turnR x y.s.r.a y.s.r.f) y) = setF (Alu.fl 16 (Alu.turnO x y.s.r.a)) y2 := by rw [Y2.out, Y1.out]; rfl
            rw [e1]
            exact Sys.mono (n' := n + 0) q (by omega)
  · skip
    obtain ⟨hc, hf⟩ := S0.out.cp
    go_simp
    clear hc hf
    refine hK.out _ _ ?s31 (fun hNew => ?r31)
    case s31 => exact hHeld
    clear hK K hHeld
    have hHeld := hNew
    clear hNew
    try simp only [Act.put, List.setIfInBounds_toArray, List.set_cons_zero, List.set_cons_succ]
    refine wpAnyH_ready (rs := [9]) (by kernel_rfl) (by simp) ?_
    refine (AllReadyH.cons (o := { dst := some 66, op := Go.Op.load 5 (Go.Operand.tmp 65), type := 5, pos := "calculate.go:26", after := #[{ on := 8, ground := Go.Ground.data }], guard := none }) rfl (fun K hK => ?_) AllReadyH.nil)
    · skip
      obtain ⟨hc, hf⟩ := S0.out.cp
      go_simp
      clear hc hf
      refine hK.out _ _ ?s32 (fun hNew => ?r32)
      case s32 => exact hHeld
      clear hK K hHeld
      have hHeld := hNew
      clear hNew
      try simp only [Act.put, List.setIfInBounds_toArray, List.set_cons_zero, List.set_cons_succ]
      refine wpAnyH_ready (rs := [16]) (by kernel_rfl) (by simp) ?_
      refine (AllReadyH.cons (o := { dst := some 73, op := Go.Op.call { callee := Go.Callee.value (Go.Operand.func 97), args := #[Go.Operand.tmp 60, Go.Operand.tmp 66, Go.Operand.tmp 72], argTypes := #[3, 5, 5] }, type := 105, pos := "calculate.go:26", after := #[{ on := 3, ground := Go.Ground.data }, { on := 9, ground := Go.Ground.data }, { on := 15, ground := Go.Ground.data }], guard := none }) rfl (fun K hK => ?_) AllReadyH.nil)
      · skip
        go_simp
        go_wp2_with (go_at_call 97; (with_reducible refine (Alu.turn_c x y.s.r.a y.s.r.f ab.1 ab.2 fb.1 fb.2 _).mono ?_); rintro e u' ⟨rfl, rfl⟩)
        refine hK.out _ _ ?s33 (fun hNew => ?r33)
        case s33 => exact hHeld
        clear hK K hHeld
        have hHeld := hNew
        clear hNew
        refine wpAnyH_take (i := 17) (oi := { dst := some 56, op := Go.Op.move (Go.Operand.tmp 73), type := 105, pos := "calculate.go:26", after := #[{ on := 16, ground := Go.Ground.data }], guard := none }) (v := ?v34) rfl (by kernel_rfl) (by kernel_rfl) (by kernel_rfl) (fun _ _ _ h => h) (Or.inl ⟨by rfl, ?y34⟩) (by assumption) ?z34
        case y34 => (intro w hSw; (try dsimp only at hSw); go_simp) <;> with_reducible rfl
        try simp only [Act.put, List.setIfInBounds_toArray, List.set_cons_zero, List.set_cons_succ]
        refine wpAnyH_take (i := 18) (oi := { dst := some 74, op := Go.Op.extract (Go.Operand.tmp 56) 0, type := 5, pos := "calculate.go:26", after := #[{ on := 17, ground := Go.Ground.data }], guard := none }) (v := ?v35) rfl (by kernel_rfl) (by kernel_rfl) (by kernel_rfl) (fun _ _ _ h => h) (Or.inl ⟨by rfl, ?y35⟩) (by assumption) ?z35
        case y35 => (intro w hSw; (try dsimp only at hSw); go_simp) <;> with_reducible rfl
        try simp only [Act.put, List.setIfInBounds_toArray, List.set_cons_zero, List.set_cons_succ]
        refine wpAnyH_take (i := 19) (oi := { dst := some 75, op := Go.Op.extract (Go.Operand.tmp 56) 1, type := 5, pos := "calculate.go:26", after := #[{ on := 17, ground := Go.Ground.data }, { on := 24, ground := Go.Ground.gcOnly Go.Departure.lateStores }], guard := none }) (v := ?v36) rfl (by kernel_rfl) (by kernel_rfl) (by kernel_rfl) (fun _ _ _ h => h) (Or.inl ⟨by rfl, ?y36⟩) (by assumption) ?z36
        case y36 => (intro w hSw; (try dsimp only at hSw); go_simp) <;> with_reducible rfl
        try simp only [Act.put, List.setIfInBounds_toArray, List.set_cons_zero, List.set_cons_succ]
        refine wpAnyH_take (i := 20) (oi := { dst := some 76, op := Go.Op.nilCheck (Go.Operand.tmp 57), type := 0, pos := "calculate.go:26", after := #[{ on := 0, ground := Go.Ground.data }, { on := 0, ground := Go.Ground.phase }, { on := 1, ground := Go.Ground.textOnly Go.Departure.lateStores }, { on := 2, ground := Go.Ground.phase }, { on := 3, ground := Go.Ground.phase }, { on := 4, ground := Go.Ground.phase }, { on := 5, ground := Go.Ground.phase }, { on := 6, ground := Go.Ground.phase }, { on := 7, ground := Go.Ground.phase }, { on := 8, ground := Go.Ground.phase }, { on := 9, ground := Go.Ground.phase }, { on := 10, ground := Go.Ground.phase }, { on := 11, ground := Go.Ground.phase }, { on := 12, ground := Go.Ground.phase }, { on := 13, ground := Go.Ground.phase }, { on := 14, ground := Go.Ground.phase }, { on := 15, ground := Go.Ground.phase }, { on := 16, ground := Go.Ground.phase }, { on := 17, ground := Go.Ground.phase }, { on := 18, ground := Go.Ground.phase }, { on := 19, ground := Go.Ground.textOnly Go.Departure.lateStores }], guard := none }) (v := ?v37) rfl (by kernel_rfl) (by kernel_rfl) (by kernel_rfl) (fun _ _ _ h => h) (Or.inl ⟨by rfl, ?y37⟩) (by assumption) ?z37
        case y37 => (intro w hSw; (try dsimp only at hSw); go_simp) <;> with_reducible rfl
        try simp only [Act.put, List.setIfInBounds_toArray, List.set_cons_zero, List.set_cons_succ]
        refine wpAnyH_take (i := 21) (oi := { dst := some 77, op := Go.Op.fieldAddr 85 (Go.Operand.tmp 76) 0, type := 0, pos := "calculate.go:26", after := #[{ on := 20, ground := Go.Ground.data }, { on := 0, ground := Go.Ground.phase }, { on := 1, ground := Go.Ground.textOnly Go.Departure.lateStores }, { on := 2, ground := Go.Ground.phase }, { on := 3, ground := Go.Ground.phase }, { on := 4, ground := Go.Ground.phase }, { on := 5, ground := Go.Ground.phase }, { on := 6, ground := Go.Ground.phase }, { on := 7, ground := Go.Ground.phase }, { on := 8, ground := Go.Ground.phase }, { on := 9, ground := Go.Ground.phase }, { on := 10, ground := Go.Ground.phase }, { on := 11, ground := Go.Ground.phase }, { on := 12, ground := Go.Ground.phase }, { on := 13, ground := Go.Ground.phase }, { on := 14, ground := Go.Ground.phase }, { on := 15, ground := Go.Ground.phase }, { on := 16, ground := Go.Ground.phase }, { on := 17, ground := Go.Ground.phase }, { on := 18, ground := Go.Ground.phase }, { on := 19, ground := Go.Ground.textOnly Go.Departure.lateStores }], guard := none }) (v := ?v38) rfl (by kernel_rfl) (by kernel_rfl) (by kernel_rfl) (fun _ _ _ h => h) (Or.inl ⟨by rfl, ?y38⟩) (by assumption) ?z38
        case y38 => (intro w hSw; (try dsimp only at hSw); go_simp) <;> with_reducible rfl
        try simp only [Act.put, List.setIfInBounds_toArray, List.set_cons_zero, List.set_cons_succ]
        refine wpAnyH_take (i := 22) (oi := { dst := some 78, op := Go.Op.fieldAddr 41 (Go.Operand.tmp 77) 0, type := 0, pos := "calculate.go:26", after := #[{ on := 21, ground := Go.Ground.data }, { on := 0, ground := Go.Ground.phase }, { on := 1, ground := Go.Ground.textOnly Go.Departure.lateStores }, { on := 2, ground := Go.Ground.phase }, { on := 3, ground := Go.Ground.phase }, { on := 4, ground := Go.Ground.phase }, { on := 5, ground := Go.Ground.phase }, { on := 6, ground := Go.Ground.phase }, { on := 7, ground := Go.Ground.phase }, { on := 8, ground := Go.Ground.phase }, { on := 9, ground := Go.Ground.phase }, { on := 10, ground := Go.Ground.phase }, { on := 11, ground := Go.Ground.phase }, { on := 12, ground := Go.Ground.phase }, { on := 13, ground := Go.Ground.phase }, { on := 14, ground := Go.Ground.phase }, { on := 15, ground := Go.Ground.phase }, { on := 16, ground := Go.Ground.phase }, { on := 17, ground := Go.Ground.phase }, { on := 18, ground := Go.Ground.phase }, { on := 19, ground := Go.Ground.textOnly Go.Departure.lateStores }], guard := none }) (v := ?v39) rfl (by kernel_rfl) (by kernel_rfl) (by kernel_rfl) (fun _ _ _ h => h) (Or.inl ⟨by rfl, ?y39⟩) (by assumption) ?z39
        case y39 => (intro w hSw; (try dsimp only at hSw); go_simp) <;> with_reducible rfl
        try simp only [Act.put, List.setIfInBounds_toArray, List.set_cons_zero, List.set_cons_succ]
        refine wpAnyH_take (i := 23) (oi := { dst := some 79, op := Go.Op.fieldAddr 39 (Go.Operand.tmp 78) 0, type := 0, pos := "calculate.go:26", after := #[{ on := 22, ground := Go.Ground.data }, { on := 0, ground := Go.Ground.phase }, { on := 1, ground := Go.Ground.textOnly Go.Departure.lateStores }, { on := 2, ground := Go.Ground.phase }, { on := 3, ground := Go.Ground.phase }, { on := 4, ground := Go.Ground.phase }, { on := 5, ground := Go.Ground.phase }, { on := 6, ground := Go.Ground.phase }, { on := 7, ground := Go.Ground.phase }, { on := 8, ground := Go.Ground.phase }, { on := 9, ground := Go.Ground.phase }, { on := 10, ground := Go.Ground.phase }, { on := 11, ground := Go.Ground.phase }, { on := 12, ground := Go.Ground.phase }, { on := 13, ground := Go.Ground.phase }, { on := 14, ground := Go.Ground.phase }, { on := 15, ground := Go.Ground.phase }, { on := 16, ground := Go.Ground.phase }, { on := 17, ground := Go.Ground.phase }, { on := 18, ground := Go.Ground.phase }, { on := 19, ground := Go.Ground.textOnly Go.Departure.lateStores }], guard := none }) (v := ?v40) rfl (by kernel_rfl) (by kernel_rfl) (by kernel_rfl) (fun _ _ _ h => h) (Or.inl ⟨by rfl, ?y40⟩) (by assumption) ?z40
        case y40 => (intro w hSw; (try dsimp only at hSw); go_simp) <;> with_reducible rfl
        try simp only [Act.put, List.setIfInBounds_toArray, List.set_cons_zero, List.set_cons_succ]
        refine wpAnyH_ready (rs := [24]) (by kernel_rfl) (by simp) ?_
        refine (AllReadyH.cons (o := { dst := none, op := Go.Op.store 5 (Go.Operand.tmp 79) (Go.Operand.tmp 74), type := 0, pos := "calculate.go:26", after := #[{ on := 23, ground := Go.Ground.data }, { on := 18, ground := Go.Ground.data }, { on := 16, ground := Go.Ground.chain }, { on := 0, ground := Go.Ground.phase }, { on := 1, ground := Go.Ground.textOnly Go.Departure.lateStores }, { on := 2, ground := Go.Ground.phase }, { on := 3, ground := Go.Ground.phase }, { on := 4, ground := Go.Ground.phase }, { on := 5, ground := Go.Ground.phase }, { on := 6, ground := Go.Ground.phase }, { on := 7, ground := Go.Ground.phase }, { on := 8, ground := Go.Ground.phase }, { on := 9, ground := Go.Ground.phase }, { on := 10, ground := Go.Ground.phase }, { on := 11, ground := Go.Ground.phase }, { on := 12, ground := Go.Ground.phase }, { on := 13, ground := Go.Ground.phase }, { on := 14, ground := Go.Ground.phase }, { on := 15, ground := Go.Ground.phase }, { on := 16, ground := Go.Ground.phase }, { on := 17, ground := Go.Ground.phase }, { on := 18, ground := Go.Ground.phase }, { on := 19, ground := Go.Ground.textOnly Go.Departure.lateStores }], guard := none }) rfl (fun K hK => ?_) AllReadyH.nil)
        · skip
          obtain ⟨hc, hf⟩ := S0.out.cp
          go_simp
          clear hc hf
          have q := S0.out.stA (Alu.turnR x y.s.r.a y.s.r.f) (turnR_b _ _ _ ab.1 ab.2).1 (turnR_b _ _ _ ab.1 ab.2).2
          have s' := q.1
          have m' := q.2
          clear q
          have HO' := Lib.hid (m'.has HO.out NO.out)
          have NO' := Lib.hid (m'.far HO.out.1 NO.out)
          clear HO NO
          have HO := HO'
          have NO := NO'
          clear HO' NO'
          refine hK.out _ _ ?s41 (fun hNew => ?r41)
          case s41 => exact ⟨HO.out.2.1, trivial⟩
          clear hK K hHeld
          have hHeld := hNew
          clear hNew
          generalize World.setCell u0 ⟨P, 0, none⟩ (.int .u8 (Alu.turnR x y.s.r.a y.s.r.f)) = w1 at hHeld s' m' HO ⊢
          have M1 := Lib.hid (M0.out.trans m')
          obtain ⟨y1, hy⟩ : ∃ q_, q_ = setA (Alu.turnR x y.s.r.a y.s.r.f) y := ⟨_, rfl⟩
          rw [← hy] at s'
          have Y1 := Lib.hid hy
          have S1 := Lib.hid s'
          clear s' m' hy
          refine wpAnyH_take (i := 25) (oi := { dst := some 80, op := Go.Op.nilCheck (Go.Operand.tmp 58), type := 0, pos := "calculate.go:26", after := #[{ on := 1, ground := Go.Ground.data }, { on := 0, ground := Go.Ground.phase }, { on := 1, ground := Go.Ground.phase }, { on := 2, ground := Go.Ground.phase }, { on := 3, ground := Go.Ground.phase }, { on := 4, ground := Go.Ground.phase }, { on := 5, ground := Go.Ground.phase }, { on := 6, ground := Go.Ground.phase }, { on := 7, ground := Go.Ground.phase }, { on := 8, ground := Go.Ground.phase }, { on := 9, ground := Go.Ground.phase }, { on := 10, ground := Go.Ground.phase }, { on := 11, ground := Go.Ground.phase }, { on := 12, ground := Go.Ground.phase }, { on := 13, ground := Go.Ground.phase }, { on := 14, ground := Go.Ground.phase }, { on := 15, ground := Go.Ground.phase }, { on := 16, ground := Go.Ground.phase }, { on := 17, ground := Go.Ground.phase }, { on := 18, ground := Go.Ground.phase }, { on := 19, ground := Go.Ground.phase }, { on := 20, ground := Go.Ground.phase }, { on := 21, ground := Go.Ground.phase }, { on := 22, ground := Go.Ground.phase }, { on := 23, ground := Go.Ground.phase }, { on := 24, ground := Go.Ground.phase }], guard := none }) (v := ?v42) rfl (by kernel_rfl) (by kernel_rfl) (by kernel_rfl) (fun _ _ _ h => h) (Or.inl ⟨by rfl, ?y42⟩) (by assumption) ?z42
          case y42 => (intro w hSw; (try dsimp only at hSw); go_simp) <;> with_reducible rfl
          try simp only [Act.put, List.setIfInBounds_toArray, List.set_cons_zero, List.set_cons_succ]
          refine wpAnyH_take (i := 26) (oi := { dst := some 81, op := Go.Op.fieldAddr 85 (Go.Operand.tmp 80) 0, type := 0, pos := "calculate.go:26", after := #[{ on := 25, ground := Go.Ground.data }, { on := 0, ground := Go.Ground.phase }, { on := 1, ground := Go.Ground.phase }, { on := 2, ground := Go.Ground.phase }, { on := 3, ground := Go.Ground.phase }, { on := 4, ground := Go.Ground.phase }, { on := 5, ground := Go.Ground.phase }, { on := 6, ground := Go.Ground.phase }, { on := 7, ground := Go.Ground.phase }, { on := 8, ground := Go.Ground.phase }, { on := 9, ground := Go.Ground.phase }, { on := 10, ground := Go.Ground.phase }, { on := 11, ground := Go.Ground.phase }, { on := 12, ground := Go.Ground.phase }, { on := 13, ground := Go.Ground.phase }, { on := 14, ground := Go.Ground.phase }, { on := 15, ground := Go.Ground.phase }, { on := 16, ground := Go.Ground.phase }, { on := 17, ground := Go.Ground.phase }, { on := 18, ground := Go.Ground.phase }, { on := 19, ground := Go.Ground.phase }, { on := 20, ground := Go.Ground.phase }, { on := 21, ground := Go.Ground.phase }, { on := 22, ground := Go.Ground.phase }, { on := 23, ground := Go.Ground.phase }, { on := 24, ground := Go.Ground.phase }], guard := none }) (v := ?v43) rfl (by kernel_rfl) (by kernel_rfl) (by kernel_rfl) (fun _ _ _ h => h) (Or.inl ⟨by rfl, ?y43⟩) (by assumption) ?z43
          case y43 => (intro w hSw; (try dsimp only at hSw); go_simp) <;> with_reducible rfl
          try simp only [Act.put, List.setIfInBounds_toArray, List.set_cons_zero, List.set_cons_succ]
          refine wpAnyH_take (i := 27) (oi := { dst := some 82, op := Go.Op.fieldAddr 41 (Go.Operand.tmp 81) 0, type := 0, pos := "calculate.go:26", after := #[{ on := 26, ground := Go.Ground.data }, { on := 0, ground := Go.Ground.phase }, { on := 1, ground := Go.Ground.phase }, { on := 2, ground := Go.Ground.phase }, { on := 3, ground := Go.Ground.phase }, { on := 4, ground := Go.Ground.phase }, { on := 5, ground := Go.Ground.phase }, { on := 6, ground := Go.Ground.phase }, { on := 7, ground := Go.Ground.phase }, { on := 8, ground := Go.Ground.phase }, { on := 9, ground := Go.Ground.phase }, { on := 10, ground := Go.Ground.phase }, { on := 11, ground := Go.Ground.phase }, { on := 12, ground := Go.Ground.phase }, { on := 13, ground := Go.Ground.phase }, { on := 14, ground := Go.Ground.phase }, { on := 15, ground := Go.Ground.phase }, { on := 16, ground := Go.Ground.phase }, { on := 17, ground := Go.Ground.phase }, { on := 18, ground := Go.Ground.phase }, { on := 19, ground := Go.Ground.phase }, { on := 20, ground := Go.Ground.phase }, { on := 21, ground := Go.Ground.phase }, { on := 22, ground := Go.Ground.phase }, { on := 23, ground := Go.Ground.phase }, { on := 24, ground := Go.Ground.phase }], guard := none }) (v := ?v44) rfl (by kernel_rfl) (by kernel_rfl) (by kernel_rfl) (fun _ _ _ h => h) (Or.inl ⟨by rfl, ?y44⟩) (by assumption) ?z44
          case y44 => (intro w hSw; (try dsimp only at hSw); go_simp) <;> with_reducible rfl
          try simp only [Act.put, List.setIfInBounds_toArray, List.set_cons_zero, List.set_cons_succ]
          refine wpAnyH_take (i := 28) (oi := { dst := some 83, op := Go.Op.fieldAddr 39 (Go.Operand.tmp 82) 1, type := 0, pos := "calculate.go:26", after := #[{ on := 27, ground := Go.Ground.data }, { on := 0, ground := Go.Ground.phase }, { on := 1, ground := Go.Ground.phase }, { on := 2, ground := Go.Ground.phase }, { on := 3, ground := Go.Ground.phase }, { on := 4, ground := Go.Ground.phase }, { on := 5, ground := Go.Ground.phase }, { on := 6, ground := Go.Ground.phase }, { on := 7, ground := Go.Ground.phase }, { on := 8, ground := Go.Ground.phase }, { on := 9, ground := Go.Ground.phase }, { on := 10, ground := Go.Ground.phase }, { on := 11, ground := Go.Ground.phase }, { on := 12, ground := Go.Ground.phase }, { on := 13, ground := Go.Ground.phase }, { on := 14, ground := Go.Ground.phase }, { on := 15, ground := Go.Ground.phase }, { on := 16, ground := Go.Ground.phase }, { on := 17, ground := Go.Ground.phase }, { on := 18, ground := Go.Ground.phase }, { on := 19, ground := Go.Ground.phase }, { on := 20, ground := Go.Ground.phase }, { on := 21, ground := Go.Ground.phase }, { on := 22, ground := Go.Ground.phase }, { on := 23, ground := Go.Ground.phase }, { on := 24, ground := Go.Ground.phase }], guard := none }) (v := ?v45) rfl (by kernel_rfl) (by kernel_rfl) (by kernel_rfl) (fun _ _ _ h => h) (Or.inl ⟨by rfl, ?y45⟩) (by assumption) ?z45
          case y45 => (intro w hSw; (try dsimp only at hSw); go_simp) <;> with_reducible rfl
          try simp only [Act.put, List.setIfInBounds_toArray, List.set_cons_zero, List.set_cons_succ]
          refine wpAnyH_ready (rs := [29]) (by kernel_rfl) (by simp) ?_
          refine (AllReadyH.cons (o := { dst := none, op := Go.Op.store 5 (Go.Operand.tmp 83) (Go.Operand.tmp 75), type := 0, pos := "calculate.go:26", after := #[{ on := 28, ground := Go.Ground.data }, { on := 19, ground := Go.Ground.data }, { on := 24, ground := Go.Ground.chain }, { on := 0, ground := Go.Ground.phase }, { on := 1, ground := Go.Ground.phase }, { on := 2, ground := Go.Ground.phase }, { on := 3, ground := Go.Ground.phase }, { on := 4, ground := Go.Ground.phase }, { on := 5, ground := Go.Ground.phase }, { on := 6, ground := Go.Ground.phase }, { on := 7, ground := Go.Ground.phase }, { on := 8, ground := Go.Ground.phase }, { on := 9, ground := Go.Ground.phase }, { on := 10, ground := Go.Ground.phase }, { on := 11, ground := Go.Ground.phase }, { on := 12, ground := Go.Ground.phase }, { on := 13, ground := Go.Ground.phase }, { on := 14, ground := Go.Ground.phase }, { on := 15, ground := Go.Ground.phase }, { on := 16, ground := Go.Ground.phase }, { on := 17, ground := Go.Ground.phase }, { on := 18, ground := Go.Ground.phase }, { on := 19, ground := Go.Ground.phase }, { on := 20, ground := Go.Ground.phase }, { on := 21, ground := Go.Ground.phase }, { on := 22, ground := Go.Ground.phase }, { on := 23, ground := Go.Ground.phase }, { on := 24, ground := Go.Ground.phase }], guard := none }) rfl (fun K hK => ?_) AllReadyH.nil)
          · skip
            obtain ⟨hc, hf⟩ := S1.out.cp
            go_simp
            clear hc hf
            have q := S1.out.stF (Alu.turnF x y.s.r.a y.s.r.f) (Alu.FL_b _ _ _ _).1 (Alu.FL_b _ _ _ _).2
            have s' := q.1
            have m' := q.2
            clear q
            have HO' := Lib.hid (m'.has HO.out NO.out)
            have NO' := Lib.hid (m'.far HO.out.1 NO.out)
            clear HO NO
            have HO := HO'
            have NO := NO'
            clear HO' NO'
            refine hK.out _ _ ?s46 (fun hNew => ?r46)
            case s46 => exact ⟨HO.out.2.1, trivial⟩
            clear hK K hHeld
            have hHeld := hNew
            clear hNew
            generalize World.setCell w1 ⟨P, 1, none⟩ (.int .u8 (Alu.turnF x y.s.r.a y.s.r.f)) = w2 at hHeld s' m' HO ⊢
            have M2 := Lib.hid (M1.out.trans m')
            obtain ⟨y2, hy⟩ : ∃ q_, q_ = setF (Alu.turnF x y.s.r.a y.s.r.f) y1 := ⟨_, rfl⟩
            rw [← hy] at s'
            have Y2 := Lib.hid hy
            have S2 := Lib.hid s'
            clear s' m' hy
            refine wpAnyH_done (by kernel_rfl) ?_ _
            obtain ⟨hc, hf⟩ := S2.out.cp
            have ho := HO.out.2.1
            have tzz := tz x y.s.r.a y.s.r.f
            have ef : y2.s.r.f = Alu.turnF x y.s.r.a y.s.r.f := by rw [Y2.out, Y1.out]; rfl
            rw [ef] at hc
            have EF := Lib.hid ef
            clear ef
            have Q := Lib.hid (S2.out.stF (Alu.fl 16 (Alu.turnO x y.s.r.a)) (Alu.fl_bd 16 (by decide) _).1 (Int.lt_of_le_of_lt (Alu.fl_bd 16 (by decide) _).2 (by decide)))
            go_wp2
            first | go_end0 | refine bodyPost_ret (results_none rfl _ _ _) rfl ?_
            refine ⟨rfl, v, ?_, M2.out.trans Q.out.2⟩
            have q := Q.out.1
            have e1 : setF (Alu.fl 16 (Alu.turnO x y.s.r.a)) (setA (Alu.turnR x y.s.r.a y.s.r.f) y) = setF (Alu.fl 16 (Alu.turnO x y.s.r.a)) y2 := by rw [Y2.out, Y1.out]; rfl
            rw [e1]
            exact Sys.mono (n' := n + 0) q (by omega)
set_option maxHeartbeats 2000000 in
theorem calc_19 (h0 : Sys procD ramC w P R M tb v y n) (hn : n < 960000) (x z s nn : Int) : Calls Tryz.prog 82 #[.pointer (some ⟨P, 0, none⟩), .agg #[.int .i64 19, .int .i64 x, .int .i64 z, .int .i64 s, .int .u16 nn]] w (PE procD ramC P R M tb v w (.tuple #[]) (setF (Alu.daaF y.s.r.a y.s.r.f) (setA (Alu.daaR y.s.r.a y.s.r.f) y)) (n + 0)) := by
  have ab := h0.ab
  have fb := h0.fb
  have S0 := Lib.hid (h0.below (own1 w (.cells #[.int .i64 19, .int .i64 x, .int .i64 z, .int .i64 s, .int .u16 nn] 44)))
  have M0 := Lib.hid (show PM P R M tb v w v (w.alloc (.cells #[.int .i64 19, .int .i64 x, .int .i64 z, .int .i64 s, .int .u16 nn] 44)) from PM.of (own1 w (.cells #[.int .i64 19, .int .i64 x, .int .i64 z, .int .i64 s, .int .u16 nn] 44)))
  have HO := Lib.hid (Has.new w #[.int .i64 19, .int .i64 x, .int .i64 z, .int .i64 s, .int .u16 nn] 44)
  have NO := Lib.hid (h0.new (Nat.le_refl w.heap.size))
  obtain ⟨hc, hf⟩ := S0.out.cp
  clear h0
  go_enter Tryz.func82, Tryz.ntmps82
  go_wp2
  generalize w.alloc (.cells #[.int .i64 19, .int .i64 x, .int .i64 z, .int .i64 s, .int .u16 nn] 44) = w0 at S0 M0 HO hc hf ⊢
  generalize w.heap.size = ob at HO NO ⊢
  have ho := HO.out.2.1
  have S0' := Lib.hid S0.out.drew
  have M0' := Lib.hid (M0.out.trans (PM.drew P R M tb v w0))
  have HO' := Lib.hid HO.out.drew
  clear ho HO
  have HO := HO'
  clear HO'
  clear hc hf
  refine wp_region_held_drew (S := (fun w' => (∀ j, w'.cell? ⟨ob, j, none⟩ = #[Value.int .i64 19, .int .i64 x, .int .i64 z, .int .i64 s, .int .u16 nn][j]?) ∧ True)) (by kernel_rfl) ⟨HO.out.2.1, trivial⟩ (fun hHeld => ?_)
  generalize World.drew w0 = u0 at hHeld S0' M0' HO ⊢
  clear S0 M0
  have S0 := S0'
  have M0 := M0'
  clear S0' M0'
  refine wpAnyH_take (i := 0) (oi := { dst := some 98, op := Go.Op.move (Go.Operand.tmp 0), type := 94, pos := "calculate.go:29", after := #[], guard := none }) (v := ?v1) rfl (by kernel_rfl) (by kernel_rfl) (by kernel_rfl) (fun _ _ _ h => h) (Or.inl ⟨by rfl, ?y1⟩) (by assumption) ?z1
  case y1 => (intro w hSw; (try dsimp only at hSw); go_simp) <;> with_reducible rfl
  try simp only [Act.put, List.setIfInBounds_toArray, List.set_cons_zero, List.set_cons_succ]
  refine wpAnyH_take (i := 1) (oi := { dst := some 99, op := Go.Op.move (Go.Operand.tmp 0), type := 94, pos := "calculate.go:29", after := #[{ on := 22, ground := Go.Ground.gcOnly Go.Departure.lateStores }], guard := none }) (v := ?v2) rfl (by kernel_rfl) (by kernel_rfl) (by kernel_rfl) (fun _ _ _ h => h) (Or.inl ⟨by rfl, ?y2⟩) (by assumption) ?z2
  case y2 => (intro w hSw; (try dsimp only at hSw); go_simp) <;> with_reducible rfl
  try simp only [Act.put, List.setIfInBounds_toArray, List.set_cons_zero, List.set_cons_succ]
  refine wpAnyH_take (i := 2) (oi := { dst := some 100, op := Go.Op.move (Go.Operand.tmp 0), type := 94, pos := "calculate.go:29", after := #[], guard := none }) (v := ?v3) rfl (by kernel_rfl) (by kernel_rfl) (by kernel_rfl) (fun _ _ _ h => h) (Or.inl ⟨by rfl, ?y3⟩) (by assumption) ?z3
  case y3 => (intro w hSw; (try dsimp only at hSw); go_simp) <;> with_reducible rfl
  try simp only [Act.put, List.setIfInBounds_toArray, List.set_cons_zero, List.set_cons_succ]
  refine wpAnyH_take (i := 3) (oi := { dst := some 101, op := Go.Op.nilCheck (Go.Operand.tmp 100), type := 0, pos := "calculate.go:29", after := #[{ on := 2, ground := Go.Ground.data }], guard := none }) (v := ?v4) rfl (by kernel_rfl) (by kernel_rfl) (by kernel_rfl) (fun _ _ _ h => h) (Or.inl ⟨by rfl, ?y4⟩) (by assumption) ?z4
  case y4 => (intro w hSw; (try dsimp only at hSw); go_simp) <;> with_reducible rfl
  try simp only [Act.put, List.setIfInBounds_toArray, List.set_cons_zero, List.set_cons_succ]
  refine wpAnyH_take (i := 4) (oi := { dst := some 102, op := Go.Op.fieldAddr 85 (Go.Operand.tmp 101) 0, type := 0, pos := "calculate.go:29", after := #[{ on := 3, ground := Go.Ground.data }], guard := none }) (v := ?v5) rfl (by kernel_rfl) (by kernel_rfl) (by kernel_rfl) (fun _ _ _ h => h) (Or.inl ⟨by rfl, ?y5⟩) (by assumption) ?z5
  case y5 => (intro w hSw; (try dsimp only at hSw); go_simp) <;> with_reducible rfl
  try simp only [Act.put, List.setIfInBounds_toArray, List.set_cons_zero, List.set_cons_succ]
  refine wpAnyH_take (i := 5) (oi := { dst := some 103, op := Go.Op.fieldAddr 41 (Go.Operand.tmp 102) 0, type := 0, pos := "calculate.go:29", after := #[{ on := 4, ground := Go.Ground.data }], guard := none }) (v := ?v6) rfl (by kernel_rfl) (by kernel_rfl) (by kernel_rfl) (fun _ _ _ h => h) (Or.inl ⟨by rfl, ?y6⟩) (by assumption) ?z6
  case y6 => (intro w hSw; (try dsimp only at hSw); go_simp) <;> with_reducible rfl
  try simp only [Act.put, List.setIfInBounds_toArray, List.set_cons_zero, List.set_cons_succ]
  refine wpAnyH_take (i := 6) (oi := { dst := some 104, op := Go.Op.fieldAddr 39 (Go.Operand.tmp 103) 0, type := 0, pos := "calculate.go:29", after := #[{ on := 5, ground := Go.Ground.data }], guard := none }) (v := ?v7) rfl (by kernel_rfl) (by kernel_rfl) (by kernel_rfl) (fun _ _ _ h => h) (Or.inl ⟨by rfl, ?y7⟩) (by assumption) ?z7
  case y7 => (intro w hSw; (try dsimp only at hSw); go_simp) <;> with_reducible rfl
  try simp only [Act.put, List.setIfInBounds_toArray, List.set_cons_zero, List.set_cons_succ]
  refine wpAnyH_take (i := 8) (oi := { dst := some 106, op := Go.Op.move (Go.Operand.tmp 0), type := 94, pos := "calculate.go:29", after := #[], guard := none }) (v := ?v8) rfl (by kernel_rfl) (by kernel_rfl) (by kernel_rfl) (fun _ _ _ h => h) (Or.inl ⟨by rfl, ?y8⟩) (by assumption) ?z8
  case y8 => (intro w hSw; (try dsimp only at hSw); go_simp) <;> with_reducible rfl
  try simp only [Act.put, List.setIfInBounds_toArray, List.set_cons_zero, List.set_cons_succ]
  refine wpAnyH_take (i := 9) (oi := { dst := some 107, op := Go.Op.nilCheck (Go.Operand.tmp 106), type := 0, pos := "calculate.go:29", after := #[{ on := 8, ground := Go.Ground.data }], guard := none }) (v := ?v9) rfl (by kernel_rfl) (by kernel_rfl) (by kernel_rfl) (fun _ _ _ h => h) (Or.inl ⟨by rfl, ?y9⟩) (by assumption) ?z9
  case y9 => (intro w hSw; (try dsimp only at hSw); go_simp) <;> with_reducible rfl
  try simp only [Act.put, List.setIfInBounds_toArray, List.set_cons_zero, List.set_cons_succ]
  refine wpAnyH_take (i := 10) (oi := { dst := some 108, op := Go.Op.fieldAddr 85 (Go.Operand.tmp 107) 0, type := 0, pos := "calculate.go:29", after := #[{ on := 9, ground := Go.Ground.data }], guard := none }) (v := ?v10) rfl (by kernel_rfl) (by kernel_rfl) (by kernel_rfl) (fun _ _ _ h => h) (Or.inl ⟨by rfl, ?y10⟩) (by assumption) ?z10
  case y10 => (intro w hSw; (try dsimp only at hSw); go_simp) <;> with_reducible rfl
  try simp only [Act.put, List.setIfInBounds_toArray, List.set_cons_zero, List.set_cons_succ]
  refine wpAnyH_take (i := 11) (oi := { dst := some 109, op := Go.Op.fieldAddr 41 (Go.Operand.tmp 108) 0, type := 0, pos := "calculate.go:29", after := #[{ on := 10, ground := Go.Ground.data }], guard := none }) (v := ?v11) rfl (by kernel_rfl) (by kernel_rfl) (by kernel_rfl) (fun _ _ _ h => h) (Or.inl ⟨by rfl, ?y11⟩) (by assumption) ?z11
  case y11 => (intro w hSw; (try dsimp only at hSw); go_simp) <;> with_reducible rfl
  try simp only [Act.put, List.setIfInBounds_toArray, List.set_cons_zero, List.set_cons_succ]
  refine wpAnyH_take (i := 12) (oi := { dst := some 110, op := Go.Op.fieldAddr 39 (Go.Operand.tmp 109) 1, type := 0, pos := "calculate.go:29", after := #[{ on := 11, ground := Go.Ground.data }], guard := none }) (v := ?v12) rfl (by kernel_rfl) (by kernel_rfl) (by kernel_rfl) (fun _ _ _ h => h) (Or.inl ⟨by rfl, ?y12⟩) (by assumption) ?z12
  case y12 => (intro w hSw; (try dsimp only at hSw); go_simp) <;> with_reducible rfl
  try simp only [Act.put, List.setIfInBounds_toArray, List.set_cons_zero, List.set_cons_succ]
  refine wpAnyH_ready (rs := [7, 13]) (by kernel_rfl) (by simp) ?_
  refine (AllReadyH.cons (o := { dst := some 105, op := Go.Op.load 5 (Go.Operand.tmp 104), type := 5, pos := "calculate.go:29", after := #[{ on := 6, ground := Go.Ground.data }], guard := none }) rfl (fun K hK => ?_) (AllReadyH.cons (o := { dst := some 111, op := Go.Op.load 5 (Go.Operand.tmp 110), type := 5, pos := "calculate.go:29", after := #[{ on := 12, ground := Go.Ground.data }], guard := none }) rfl (fun K hK => ?_) AllReadyH.nil))
  · skip
    obtain ⟨hc, hf⟩ := S0.out.cp
    go_simp
    clear hc hf
    refine hK.out _ _ ?s13 (fun hNew => ?r13)
    case s13 => exact hHeld
    clear hK K hHeld
    have hHeld := hNew
    clear hNew
    try simp only [Act.put, List.setIfInBounds_toArray, List.set_cons_zero, List.set_cons_succ]
    refine wpAnyH_ready (rs := [13]) (by kernel_rfl) (by simp) ?_
    refine (AllReadyH.cons (o := { dst := some 111, op := Go.Op.load 5 (Go.Operand.tmp 110), type := 5, pos := "calculate.go:29", after := #[{ on := 12, ground := Go.Ground.data }], guard := none }) rfl (fun K hK => ?_) AllReadyH.nil)
    · skip
      obtain ⟨hc, hf⟩ := S0.out.cp
      go_simp
      clear hc hf
      refine hK.out _ _ ?s14 (fun hNew => ?r14)
      case s14 => exact hHeld
      clear hK K hHeld
      have hHeld := hNew
      clear hNew
      try simp only [Act.put, List.setIfInBounds_toArray, List.set_cons_zero, List.set_cons_succ]
      refine wpAnyH_ready (rs := [14]) (by kernel_rfl) (by simp) ?_
      refine (AllReadyH.cons (o := { dst := some 112, op := Go.Op.call { callee := Go.Callee.value (Go.Operand.func 98), args := #[Go.Operand.tmp 105, Go.Operand.tmp 111], argTypes := #[5, 5] }, type := 105, pos := "calculate.go:29", after := #[{ on := 7, ground := Go.Ground.data }, { on := 13, ground := Go.Ground.data }], guard := none }) rfl (fun K hK => ?_) AllReadyH.nil)
      · skip
        go_simp
        go_wp2_with (go_at_call 98; (with_reducible refine (Alu.daa_c y.s.r.a y.s.r.f ab.1 ab.2 fb.1 fb.2 _).mono ?_); rintro e u' ⟨rfl, rfl⟩)
        refine hK.out _ _ ?s15 (fun hNew => ?r15)
        case s15 => exact hHeld
        clear hK K hHeld
        have hHeld := hNew
        clear hNew
        refine wpAnyH_take (i := 15) (oi := { dst := some 97, op := Go.Op.move (Go.Operand.tmp 112), type := 105, pos := "calculate.go:29", after := #[{ on := 14, ground := Go.Ground.data }], guard := none }) (v := ?v16) rfl (by kernel_rfl) (by kernel_rfl) (by kernel_rfl) (fun _ _ _ h => h) (Or.inl ⟨by rfl, ?y16⟩) (by assumption) ?z16
        case y16 => (intro w hSw; (try dsimp only at hSw); go_simp) <;> with_reducible rfl
        try simp only [Act.put, List.setIfInBounds_toArray, List.set_cons_zero, List.set_cons_succ]
        refine wpAnyH_take (i := 16) (oi := { dst := some 113, op := Go.Op.extract (Go.Operand.tmp 97) 0, type := 5, pos := "calculate.go:29", after := #[{ on := 15, ground := Go.Ground.data }], guard := none }) (v := ?v17) rfl (by kernel_rfl) (by kernel_rfl) (by kernel_rfl) (fun _ _ _ h => h) (Or.inl ⟨by rfl, ?y17⟩) (by assumption) ?z17
        case y17 => (intro w hSw; (try dsimp only at hSw); go_simp) <;> with_reducible rfl
        try simp only [Act.put, List.setIfInBounds_toArray, List.set_cons_zero, List.set_cons_succ]
        refine wpAnyH_take (i := 17) (oi := { dst := some 114, op := Go.Op.extract (Go.Operand.tmp 97) 1, type := 5, pos := "calculate.go:29", after := #[{ on := 15, ground := Go.Ground.data }, { on := 22, ground := Go.Ground.gcOnly Go.Departure.lateStores }], guard := none }) (v := ?v18) rfl (by kernel_rfl) (by kernel_rfl) (by kernel_rfl) (fun _ _ _ h => h) (Or.inl ⟨by rfl, ?y18⟩) (by assumption) ?z18
        case y18 => (intro w hSw; (try dsimp only at hSw); go_simp) <;> with_reducible rfl
        try simp only [Act.put, List.setIfInBounds_toArray, List.set_cons_zero, List.set_cons_succ]
        refine wpAnyH_take (i := 18) (oi := { dst := some 115, op := Go.Op.nilCheck (Go.Operand.tmp 98), type := 0, pos := "calculate.go:29", after := #[{ on := 0, ground := Go.Ground.data }, { on := 0, ground := Go.Ground.phase }, { on := 1, ground := Go.Ground.textOnly Go.Departure.lateStores }, { on := 2, ground := Go.Ground.phase }, { on := 3, ground := Go.Ground.phase }, { on := 4, ground := Go.Ground.phase }, { on := 5, ground := Go.Ground.phase }, { on := 6, ground := Go.Ground.phase }, { on := 7, ground := Go.Ground.phase }, { on := 8, ground := Go.Ground.phase }, { on := 9, ground := Go.Ground.phase }, { on := 10, ground := Go.Ground.phase }, { on := 11, ground := Go.Ground.phase }, { on := 12, ground := Go.Ground.phase }, { on := 13, ground := Go.Ground.phase }, { on := 14, ground := Go.Ground.phase }, { on := 15, ground := Go.Ground.phase }, { on := 16, ground := Go.Ground.phase }, { on := 17, ground := Go.Ground.textOnly Go.Departure.lateStores }], guard := none }) (v := ?v19) rfl (by kernel_rfl) (by kernel_rfl) (by kernel_rfl) (fun _ _ _ h => h) (Or.inl ⟨by rfl, ?y19⟩) (by assumption) ?z19
        case y19 => (intro w hSw; (try dsimp only at hSw); go_simp) <;> with_reducible rfl
        try simp only [Act.put, List.setIfInBounds_toArray, List.set_cons_zero, List.set_cons_succ]
        refine wpAnyH_take (i := 19) (oi := { dst := some 116, op := Go.Op.fieldAddr 85 (Go.Operand.tmp 115) 0, type := 0, pos := "calculate.go:29", after := #[{ on := 18, ground := Go.Ground.data }, { on := 0, ground := Go.Ground.phase }, { on := 1, ground := Go.Ground.textOnly Go.Departure.lateStores }, { on := 2, ground := Go.Ground.phase }, { on := 3, ground := Go.Ground.phase }, { on := 4, ground := Go.Ground.phase }, { on := 5, ground := Go.Ground.phase }, { on := 6, ground := Go.Ground.phase }, { on := 7, ground := Go.Ground.phase }, { on := 8, ground := Go.Ground.phase }, { on := 9, ground := Go.Ground.phase }, { on := 10, ground := Go.Ground.phase }, { on := 11, ground := Go.Ground.phase }, { on := 12, ground := Go.Ground.phase }, { on := 13, ground := Go.Ground.phase }, { on := 14, ground := Go.Ground.phase }, { on := 15, ground := Go.Ground.phase }, { on := 16, ground := Go.Ground.phase }, { on := 17, ground := Go.Ground.textOnly Go.Departure.lateStores }], guard := none }) (v := ?v20) rfl (by kernel_rfl) (by kernel_rfl) (by kernel_rfl) (fun _ _ _ h => h) (Or.inl ⟨by rfl, ?y20⟩) (by assumption) ?z20
        case y20 => (intro w hSw; (try dsimp only at hSw); go_simp) <;> with_reducible rfl
        try simp only [Act.put, List.setIfInBounds_toArray, List.set_cons_zero, List.set_cons_succ]
        refine wpAnyH_take (i := 20) (oi := { dst := some 117, op := Go.Op.fieldAddr 41 (Go.Operand.tmp 116) 0, type := 0, pos := "calculate.go:29", after := #[{ on := 19, ground := Go.Ground.data }, { on := 0, ground := Go.Ground.phase }, { on := 1, ground := Go.Ground.textOnly Go.Departure.lateStores }, { on := 2, ground := Go.Ground.phase }, { on := 3, ground := Go.Ground.phase }, { on := 4, ground := Go.Ground.phase }, { on := 5, ground := Go.Ground.phase }, { on := 6, ground := Go.Ground.phase }, { on := 7, ground := Go.Ground.phase }, { on := 8, ground := Go.Ground.phase }, { on := 9, ground := Go.Ground.phase }, { on := 10, ground := Go.Ground.phase }, { on := 11, ground := Go.Ground.phase }, { on := 12, ground := Go.Ground.phase }, { on := 13, ground := Go.Ground.phase }, { on := 14, ground := Go.Ground.phase }, { on := 15, ground := Go.Ground.phase }, { on := 16, ground := Go.Ground.phase }, { on := 17, ground := Go.Ground.textOnly Go.Departure.lateStores }], guard := none }) (v := ?v21) rfl (by kernel_rfl) (by kernel_rfl) (by kernel_rfl) (fun _ _ _ h => h) (Or.inl ⟨by rfl, ?y21⟩) (by assumption) ?z21
        case y21 => (intro w hSw; (try dsimp only at hSw); go_simp) <;> with_reducible rfl
        try simp only [Act.put, List.setIfInBounds_toArray, List.set_cons_zero, List.set_cons_succ]
        refine wpAnyH_take (i := 21) (oi := { dst := some 118, op := Go.Op.fieldAddr 39 (Go.Operand.tmp 117) 0, type := 0, pos := "calculate.go:29", after := #[{ on := 20, ground := Go.Ground.data }, { on := 0, ground := Go.Ground.phase }, { on := 1, ground := Go.Ground.textOnly Go.Departure.lateStores }, { on := 2, ground := Go.Ground.phase }, { on := 3, ground := Go.Ground.phase }, { on := 4, ground := Go.Ground.phase }, { on := 5, ground := Go.Ground.phase }, { on := 6, ground := Go.Ground.phase }, { on := 7, ground := Go.Ground.phase }, { on := 8, ground := Go.Ground.phase }, { on := 9, ground := Go.Ground.phase }, { on := 10, ground := Go.Ground.phase }, { on := 11, ground := Go.Ground.phase }, { on := 12, ground := Go.Ground.phase }, { on := 13, ground := Go.Ground.phase }, { on := 14, ground := Go.Ground.phase }, { on := 15, ground := Go.Ground.phase }, { on := 16, ground := Go.Ground.phase }, { on := 17, ground := Go.Ground.textOnly Go.Departure.lateStores }], guard := none }) (v := ?v22) rfl (by kernel_rfl) (by kernel_rfl) (by kernel_rfl) (fun _ _ _ h => h) (Or.inl ⟨by rfl, ?y22⟩) (by assumption) ?z22
        case y22 => (intro w hSw; (try dsimp only at hSw); go_simp) <;> with_reducible rfl
        try simp only [Act.put, List.setIfInBounds_toArray, List.set_cons_zero, List.set_cons_succ]
        refine wpAnyH_ready (rs := [22]) (by kernel_rfl) (by simp) ?_
        refine (AllReadyH.cons (o := { dst := none, op := Go.Op.store 5 (Go.Operand.tmp 118) (Go.Operand.tmp 113), type := 0, pos := "calculate.go:29", after := #[{ on := 21, ground := Go.Ground.data }, { on := 16, ground := Go.Ground.data }, { on := 14, ground := Go.Ground.chain }, { on := 0, ground := Go.Ground.phase }, { on := 1, ground := Go.Ground.textOnly Go.Departure.lateStores }, { on := 2, ground := Go.Ground.phase }, { on := 3, ground := Go.Ground.phase }, { on := 4, ground := Go.Ground.phase }, { on := 5, ground := Go.Ground.phase }, { on := 6, ground := Go.Ground.phase }, { on := 7, ground := Go.Ground.phase }, { on := 8, ground := Go.Ground.phase }, { on := 9, ground := Go.Ground.phase }, { on := 10, ground := Go.Ground.phase }, { on := 11, ground := Go.Ground.phase }, { on := 12, ground := Go.Ground.phase }, { on := 13, ground := Go.Ground.phase }, { on := 14, ground := Go.Ground.phase }, { on := 15, ground := Go.Ground.phase }, { on := 16, ground := Go.Ground.phase }, { on := 17, ground := Go.Ground.textOnly Go.Departure.lateStores }], guard := none }) rfl (fun K hK => ?_) AllReadyH.nil)
        · skip
          obtain ⟨hc, hf⟩ := S0.out.cp
          go_simp
          clear hc hf
          have q := S0.out.stA (Alu.daaR y.s.r.a y.s.r.f) (daaR_b _ _).1 (daaR_b _ _).2
          have s' := q.1
          have m' := q.2
          clear q
          have HO' := Lib.hid (m'.has HO.out NO.out)
          have NO' := Lib.hid (m'.far HO.out.1 NO.out)
          clear HO NO
          have HO := HO'
          have NO := NO'
          clear HO' NO'
          refine hK.out _ _ ?s23 (fun hNew => ?r23)
          case s23 => exact ⟨HO.out.2.1, trivial⟩
          clear hK K hHeld
          have hHeld := hNew
          clear hNew
          generalize World.setCell u0 ⟨P, 0, none⟩ (.int .u8 (Alu.daaR y.s.r.a y.s.r.f)) = w1 at hHeld s' m' HO ⊢
          have M1 := Lib.hid (M0.out.trans m')
          obtain ⟨y1, hy⟩ : ∃ q_, q_ = setA (Alu.daaR y.s.r.a y.s.r.f) y := ⟨_, rfl⟩
          rw [← hy] at s'
          have Y1 := Lib.hid hy
          have S1 := Lib.hid s'
          clear s' m' hy
          refine wpAnyH_take (i := 23) (oi := { dst := some 119, op := Go.Op.nilCheck (Go.Operand.tmp 99), type := 0, pos := "calculate.go:29", after := #[{ on := 1, ground := Go.Ground.data }, { on := 0, ground := Go.Ground.phase }, { on := 1, ground := Go.Ground.phase }, { on := 2, ground := Go.Ground.phase }, { on := 3, ground := Go.Ground.phase }, { on := 4, ground := Go.Ground.phase }, { on := 5, ground := Go.Ground.phase }, { on := 6, ground := Go.Ground.phase }, { on := 7, ground := Go.Ground.phase }, { on := 8, ground := Go.Ground.phase }, { on := 9, ground := Go.Ground.phase }, { on := 10, ground := Go.Ground.phase }, { on := 11, ground := Go.Ground.phase }, { on := 12, ground := Go.Ground.phase }, { on := 13, ground := Go.Ground.phase }, { on := 14, ground := Go.Ground.phase }, { on := 15, ground := Go.Ground.phase }, { on := 16, ground := Go.Ground.phase }, { on := 17, ground := Go.Ground.phase }, { on := 18, ground := Go.Ground.phase }, { on := 19, ground := Go.Ground.phase }, { on := 20, ground := Go.Ground.phase }, { on := 21, ground := Go.Ground.phase }, { on := 22, ground := Go.Ground.phase }], guard := none }) (v := ?v24) rfl (by kernel_rfl) (by kernel_rfl) (by kernel_rfl) (fun _ _ _ h => h) (Or.inl ⟨by rfl, ?y24⟩) (by assumption) ?z24
          case y24 => (intro w hSw; (try dsimp only at hSw); go_simp) <;> with_reducible rfl
          try simp only [Act.put, List.setIfInBounds_toArray, List.set_cons_zero, List.set_cons_succ]
          refine wpAnyH_take (i := 24) (oi := { dst := some 120, op := Go.Op.fieldAddr 85 (Go.Operand.tmp 119) 0, type := 0, pos := "calculate.go:29", after := #[{ on := 23, ground := Go.Ground.data }, { on := 0, ground := Go.Ground.phase }, { on := 1, ground := Go.Ground.phase }, { on := 2, ground := Go.Ground.phase }, { on := 3, ground := Go.Ground.phase }, { on := 4, ground := Go.Ground.phase }, { on := 5, ground := Go.Ground.phase }, { on := 6, ground := Go.Ground.phase }, { on := 7, ground := Go.Ground.phase }, { on := 8, ground := Go.Ground.phase }, { on := 9, ground := Go.Ground.phase }, { on := 10, ground := Go.Ground.phase }, { on := 11, ground := Go.Ground.phase }, { on := 12, ground := Go.Ground.phase }, { on := 13, ground := Go.Ground.phase }, { on := 14, ground := Go.Ground.phase }, { on := 15, ground := Go.Ground.phase }, { on := 16, ground := Go.Ground.phase }, { on := 17, ground := Go.Ground.phase }, { on := 18, ground := Go.Ground.phase }, { on := 19, ground := Go.Ground.phase }, { on := 20, ground := Go.Ground.phase }, { on := 21, ground := Go.Ground.phase }, { on := 22, ground := Go.Ground.phase }], guard := none }) (v := ?v25) rfl (by kernel_rfl) (by kernel_rfl) (by kernel_rfl) (fun _ _ _ h => h) (Or.inl ⟨by rfl, ?y25⟩) (by assumption) ?z25
          case y25 => (intro w hSw; (try dsimp only at hSw); go_simp) <;> with_reducible rfl
          try simp only [Act.put, List.setIfInBounds_toArray, List.set_cons_zero, List.set_cons_succ]
          refine wpAnyH_take (i := 25) (oi := { dst := some 121, op := Go.Op.fieldAddr 41 (Go.Operand.tmp 120) 0, type := 0, pos := "calculate.go:29", after := #[{ on := 24, ground := Go.Ground.data }, { on := 0, ground := Go.Ground.phase }, { on := 1, ground := Go.Ground.phase }, { on := 2, ground := Go.Ground.phase }, { on := 3, ground := Go.Ground.phase }, { on := 4, ground := Go.Ground.phase }, { on := 5, ground := Go.Ground.phase }, { on := 6, ground := Go.Ground.phase }, { on := 7, ground := Go.Ground.phase }, { on := 8, ground := Go.Ground.phase }, { on := 9, ground := Go.Ground.phase }, { on := 10, ground := Go.Ground.phase }, { on := 11, ground := Go.Ground.phase }, { on := 12, ground := Go.Ground.phase }, { on := 13, ground := Go.Ground.phase }, { on := 14, ground := Go.Ground.phase }, { on := 15, ground := Go.Ground.phase }, { on := 16, ground := Go.Ground.phase }, { on := 17, ground := Go.Ground.phase }, { on := 18, ground := Go.Ground.phase }, { on := 19, ground := Go.Ground.phase }, { on := 20, ground := Go.Ground.phase }, { on := 21, ground := Go.Ground.phase }, { on := 22, ground := Go.Ground.phase }], guard := none }) (v := ?v26) rfl (by kernel_rfl) (by kernel_rfl) (by kernel_rfl) (fun _ _ _ h => h) (Or.inl ⟨by rfl, ?y26⟩) (by assumption) ?z26
          case y26 => (intro w hSw; (try dsimp only at hSw); go_simp) <;> with_reducible rfl
          try simp only [Act.put, List.setIfInBounds_toArray, List.set_cons_zero, List.set_cons_succ]
          refine wpAnyH_take (i := 26) (oi := { dst := some 122, op := Go.Op.fieldAddr 39 (Go.Operand.tmp 121) 1, type := 0, pos := "calculate.go:29", after := #[{ on := 25, ground := Go.Ground.data }, { on := 0, ground := Go.Ground.phase }, { on := 1, ground := Go.Ground.phase }, { on := 2, ground := Go.Ground.phase }, { on := 3, ground := Go.Ground.phase }, { on := 4, ground := Go.Ground.phase }, { on := 5, ground := Go.Ground.phase }, { on := 6, ground := Go.Ground.phase }, { on := 7, ground := Go.Ground.phase }, { on := 8, ground := Go.Ground.phase }, { on := 9, ground := Go.Ground.phase }, { on := 10, ground := Go.Ground.phase }, { on := 11, ground := Go.Ground.phase }, { on := 12, ground := Go.Ground.phase }, { on := 13, ground := Go.Ground.phase }, { on := 14, ground := Go.Ground.phase }, { on := 15, ground := Go.Ground.phase }, { on := 16, ground := Go.Ground.phase }, { on := 17, ground := Go.Ground.phase }, { on := 18, ground := Go.Ground.phase }, { on := 19, ground := Go.Ground.phase }, { on := 20, ground := Go.Ground.phase }, { on := 21, ground := Go.Ground.phase }, { on := 22, ground := Go.Ground.phase }], guard := none }) (v := ?v27) rfl (by kernel_rfl) (by kernel_rfl) (by kernel_rfl) (fun _ _ _ h => h) (Or.inl ⟨by rfl, ?y27⟩) (by assumption) ?z27
          case y27 => (intro w hSw; (try dsimp only at hSw); go_simp) <;> with_reducible rfl
          try simp only [Act.put, List.setIfInBounds_toArray, List.set_cons_zero, List.set_cons_succ]
          refine wpAnyH_ready (rs := [27]) (by kernel_rfl) (by simp) ?_
          refine (AllReadyH.cons (o := { dst := none, op := Go.Op.store 5 (Go.Operand.tmp 122) (Go.Operand.tmp 114), type := 0, pos := "calculate.go:29", after := #[{ on := 26, ground := Go.Ground.data }, { on := 17, ground := Go.Ground.data }, { on := 22, ground := Go.Ground.chain }, { on := 0, ground := Go.Ground.phase }, { on := 1, ground := Go.Ground.phase }, { on := 2, ground := Go.Ground.phase }, { on := 3, ground := Go.Ground.phase }, { on := 4, ground := Go.Ground.phase }, { on := 5, ground := Go.Ground.phase }, { on := 6, ground := Go.Ground.phase }, { on := 7, ground := Go.Ground.phase }, { on := 8, ground := Go.Ground.phase }, { on := 9, ground := Go.Ground.phase }, { on := 10, ground := Go.Ground.phase }, { on := 11, ground := Go.Ground.phase }, { on := 12, ground := Go.Ground.phase }, { on := 13, ground := Go.Ground.phase }, { on := 14, ground := Go.Ground.phase }, { on := 15, ground := Go.Ground.phase }, { on := 16, ground := Go.Ground.phase }, { on := 17, ground := Go.Ground.phase }, { on := 18, ground := Go.Ground.phase }, { on := 19, ground := Go.Ground.phase }, { on := 20, ground := Go.Ground.phase }, { on := 21, ground := Go.Ground.phase }, { on := 22, ground := Go.Ground.phase }], guard := none }) rfl (fun K hK => ?_) AllReadyH.nil)
          · skip
            obtain ⟨hc, hf⟩ := S1.out.cp
            go_simp
            clear hc hf
            have q := S1.out.stF (Alu.daaF y.s.r.a y.s.r.f) (Alu.FL_b _ _ _ _).1 (Alu.FL_b _ _ _ _).2
            have s' := q.1
            have m' := q.2
            clear q
            have HO' := Lib.hid (m'.has HO.out NO.out)
            have NO' := Lib.hid (m'.far HO.out.1 NO.out)
            clear HO NO
            have HO := HO'
            have NO := NO'
            clear HO' NO'
            refine hK.out _ _ ?s28 (fun hNew => ?r28)
            case s28 => exact ⟨HO.out.2.1, trivial⟩
            clear hK K hHeld
            have hHeld := hNew
            clear hNew
            generalize World.setCell w1 ⟨P, 1, none⟩ (.int .u8 (Alu.daaF y.s.r.a y.s.r.f)) = w2 at hHeld s' m' HO ⊢
            have M2 := Lib.hid (M1.out.trans m')
            obtain ⟨y2, hy⟩ : ∃ q_, q_ = setF (Alu.daaF y.s.r.a y.s.r.f) y1 := ⟨_, rfl⟩
            rw [← hy] at s'
            have Y2 := Lib.hid hy
            have S2 := Lib.hid s'
            clear s' m' hy
            refine wpAnyH_done (by kernel_rfl) ?_ _
            obtain ⟨hc, hf⟩ := S2.out.cp
            have ho := HO.out.2.1
            go_wp2
            first | go_end0 | refine bodyPost_ret (results_none rfl _ _ _) rfl ?_
            refine ⟨rfl, v, ?_, M2.out⟩
            have q := S2.out
            have e := Y2.out.symm
            subst e
            have e := Y1.out.symm
            subst e
            exact Sys.mono (n' := n + 0) q (by omega)
  · skip
    obtain ⟨hc, hf⟩ := S0.out.cp
    go_simp
    clear hc hf
    refine hK.out _ _ ?s29 (fun hNew => ?r29)
    case s29 => exact hHeld
    clear hK K hHeld
    have hHeld := hNew
    clear hNew
    try simp only [Act.put, List.setIfInBounds_toArray, List.set_cons_zero, List.set_cons_succ]
    refine wpAnyH_ready (rs := [7]) (by kernel_rfl) (by simp) ?_
    refine (AllReadyH.cons (o := { dst := some 105, op := Go.Op.load 5 (Go.Operand.tmp 104), type := 5, pos := "calculate.go:29", after := #[{ on := 6, ground := Go.Ground.data }], guard := none }) rfl (fun K hK => ?_) AllReadyH.nil)
    · skip
      obtain ⟨hc, hf⟩ := S0.out.cp
      go_simp
      clear hc hf
      refine hK.out _ _ ?s30 (fun hNew => ?r30)
      case s30 => exact hHeld
      clear hK K hHeld
      have hHeld := hNew
      clear hNew
      try simp only [Act.put, List.setIfInBounds_toArray, List.set_cons_zero, List.set_cons_succ]
      refine wpAnyH_ready (rs := [14]) (by kernel_rfl) (by simp) ?_
      refine (AllReadyH.cons (o := { dst := some 112, op := Go.Op.call { callee := Go.Callee.value (Go.Operand.func 98), args := #[Go.Operand.tmp 105, Go.Operand.tmp 111], argTypes := #[5, 5] }, type := 105, pos := "calculate.go:29", after := #[{ on := 7, ground := Go.Ground.data }, { on := 13, ground := Go.Ground.data }], guard := none }) rfl (fun K hK => ?_) AllReadyH.nil)
      · skip
        go_simp
        go_wp2_with (go_at_call 98; (with_reducible refine (Alu.daa_c y.s.r.a y.s.r.f ab.1 ab.2 fb.1 fb.2 _).mono ?_); rintro e u' ⟨rfl, rfl⟩)
        refine hK.out _ _ ?s31 (fun hNew => ?r31)
        case s31 => exact hHeld
        clear hK K hHeld
        have hHeld := hNew
        clear hNew
        refine wpAnyH_take (i := 15) (oi := { dst := some 97, op := Go.Op.move (Go.Operand.tmp 112), type := 105, pos := "calculate.go:29", after := #[{ on := 14, ground := Go.Ground.data }], guard := none }) (v := ?v32) rfl (by kernel_rfl) (by kernel_rfl) (by kernel_rfl) (fun _ _ _ h => h) (Or.inl ⟨by rfl, ?y32⟩) (by assumption) ?z32
        case y32 => (intro w hSw; (try dsimp only at hSw); go_simp) <;> with_reducible rfl
        try simp only [Act.put, List.setIfInBounds_toArray, List.set_cons_zero, List.set_cons_succ]
        refine wpAnyH_take (i := 16) (oi := { dst := some 113, op := Go.Op.extract (Go.Operand.tmp 97) 0, type := 5, pos := "calculate.go:29", after := #[{ on := 15, ground := Go.Ground.data }], guard := none }) (v := ?v33) rfl (by kernel_rfl) (by kernel_rfl) (by kernel_rfl) (fun _ _ _ h => h) (Or.inl ⟨by rfl, ?y33⟩) (by assumption) ?z33
        case y33 => (intro w hSw; (try dsimp only at hSw); go_simp) <;> with_reducible rfl
        try simp only [Act.put, List.setIfInBounds_toArray, List.set_cons_zero, List.set_cons_succ]
        refine wpAnyH_take (i := 17) (oi := { dst := some 114, op := Go.Op.extract (Go.Operand.tmp 97) 1, type := 5, pos := "calculate.go:29", after := #[{ on := 15, ground := Go.Ground.data }, { on := 22, ground := Go.Ground.gcOnly Go.Departure.lateStores }], guard := none }) (v := ?v34) rfl (by kernel_rfl) (by kernel_rfl) (by kernel_rfl) (fun _ _ _ h => h) (Or.inl ⟨by rfl, ?y34⟩) (by assumption) ?z34
        case y34 => (intro w hSw; (try dsimp only at hSw); go_simp) <;> with_reducible rfl
        try simp only [Act.put, List.setIfInBounds_toArray, List.set_cons_zero, List.set_cons_succ]
        refine wpAnyH_take (i := 18) (oi := { dst := some 115, op := Go.Op.nilCheck (Go.Operand.tmp 98), type := 0, pos := "calculate.go:29", after := #[{ on := 0, ground := Go.Ground.data }, { on := 0, ground := Go.Ground.phase }, { on := 1, ground := Go.Ground.textOnly Go.Departure.lateStores }, { on := 2, ground := Go.Ground.phase }, { on := 3, ground := Go.Ground.phase }, { on := 4, ground := Go.Ground.phase }, { on := 5, ground := Go.Ground.phase }, { on := 6, ground := Go.Ground.phase }, { on := 7, ground := Go.Ground.phase }, { on := 8, ground := Go.Ground.phase }, { on := 9, ground := Go.Ground.phase }, { on := 10, ground := Go.Ground.phase }, { on := 11, ground := Go.Ground.phase }, { on := 12, ground := Go.Ground.phase }, { on := 13, ground := Go.Ground.phase }, { on := 14, ground := Go.Ground.phase }, { on := 15, ground := Go.Ground.phase }, { on := 16, ground := Go.Ground.phase }, { on := 17, ground := Go.Ground.textOnly Go.Departure.lateStores }], guard := none }) (v := ?v35) rfl (by kernel_rfl) (by kernel_rfl) (by kernel_rfl) (fun _ _ _ h => h) (Or.inl ⟨by rfl, ?y35⟩) (by assumption) ?z35
        case y35 => (intro w hSw; (try dsimp only at hSw); go_simp) <;> with_reducible rfl
        try simp only [Act.put, List.setIfInBounds_toArray, List.set_cons_zero, List.set_cons_succ]
        refine wpAnyH_take (i := 19) (oi := { dst := some 116, op := Go.Op.fieldAddr 85 (Go.Operand.tmp 115) 0, type := 0, pos := "calculate.go:29", after := #[{ on := 18, ground := Go.Ground.data }, { on := 0, ground := Go.Ground.phase }, { on := 1, ground := Go.Ground.textOnly Go.Departure.lateStores }, { on := 2, ground := Go.Ground.phase }, { on := 3, ground := Go.Ground.phase }, { on := 4, ground := Go.Ground.phase }, { on := 5, ground := Go.Ground.phase }, { on := 6, ground := Go.Ground.phase }, { on := 7, ground := Go.Ground.phase }, { on := 8, ground := Go.Ground.phase }, { on := 9, ground := Go.Ground.phase }, { on := 10, ground := Go.Ground.phase }, { on := 11, ground := Go.Ground.phase }, { on := 12, ground := Go.Ground.phase }, { on := 13, ground := Go.Ground.phase }, { on := 14, ground := Go.Ground.phase }, { on := 15, ground := Go.Ground.phase }, { on := 16, ground := Go.Ground.phase }, { on := 17, ground := Go.Ground.textOnly Go.Departure.lateStores }], guard := none }) (v := ?v36) rfl (by kernel_rfl) (by kernel_rfl) (by kernel_rfl) (fun _ _ _ h => h) (Or.inl ⟨by rfl, ?y36⟩) (by assumption) ?z36
        case y36 => (intro w hSw; (try dsimp only at hSw); go_simp) <;> with_reducible rfl
        try simp only [Act.put, List.setIfInBounds_toArray, List.set_cons_zero, List.set_cons_succ]
        refine wpAnyH_take (i := 20) (oi := { dst := some 117, op := Go.Op.fieldAddr 41 (Go.Operand.tmp 116) 0, type := 0, pos := "calculate.go:29", after := #[{ on := 19, ground := Go.Ground.data }, { on := 0, ground := Go.Ground.phase }, { on := 1, ground := Go.Ground.textOnly Go.Departure.lateStores }, { on := 2, ground := Go.Ground.phase }, { on := 3, ground := Go.Ground.phase }, { on := 4, ground := Go.Ground.phase }, { on := 5, ground := Go.Ground.phase }, { on := 6, ground := Go.Ground.phase }, { on := 7, ground := Go.Ground.phase }, { on := 8, ground := Go.Ground.phase }, { on := 9, ground := Go.Ground.phase }, { on := 10, ground := Go.Ground.phase }, { on := 11, ground := Go.Ground.phase }, { on := 12, ground := Go.Ground.phase }, { on := 13, ground := Go.Ground.phase }, { on := 14, ground := Go.Ground.phase }, { on := 15, ground := Go.Ground.phase }, { on := 16, ground := Go.Ground.phase }, { on := 17, ground := Go.Ground.textOnly Go.Departure.lateStores }], guard := none }) (v := ?v37) rfl (by kernel_rfl) (by kernel_rfl) (by kernel_rfl) (fun _ _ _ h => h) (Or.inl ⟨by rfl, ?y37⟩) (by assumption) ?z37
        case y37 => (intro w hSw; (try dsimp only at hSw); go_simp) <;> with_reducible rfl
        try simp only [Act.put, List.setIfInBounds_toArray, List.set_cons_zero, List.set_cons_succ]
        refine wpAnyH_take (i := 21) (oi := { dst := some 118, op := Go.Op.fieldAddr 39 (Go.Operand.tmp 117) 0, type := 0, pos := "calculate.go:29", after := #[{ on := 20, ground := Go.Ground.data }, { on := 0, ground := Go.Ground.phase }, { on := 1, ground := Go.Ground.textOnly Go.Departure.lateStores }, { on := 2, ground := Go.Ground.phase }, { on := 3, ground := Go.Ground.phase }, { on := 4, ground := Go.Ground.phase }, { on := 5, ground := Go.Ground.phase }, { on := 6, ground := Go.Ground.phase }, { on := 7, ground := Go.Ground.phase }, { on := 8, ground := Go.Ground.phase }, { on := 9, ground := Go.Ground.phase }, { on := 10, ground := Go.Ground.phase }, { on := 11, ground := Go.Ground.phase }, { on := 12, ground := Go.Ground.phase }, { on := 13, ground := Go.Ground.phase }, { on := 14, ground := Go.Ground.phase }, { on := 15, ground := Go.Ground.phase }, { on := 16, ground := Go.Ground.phase }, { on := 17, ground := Go.Ground.textOnly Go.Departure.lateStores }], guard := none }) (v := ?v38) rfl (by kernel_rfl) (by kernel_rfl) (by kernel_rfl) (fun _ _ _ h => h) (Or.inl ⟨by rfl, ?y38⟩) (by assumption) ?z38
        case y38 => (intro w hSw; (try dsimp only at hSw); go_simp) <;> with_reducible rfl
        try simp only [Act.put, List.setIfInBounds_toArray, List.set_cons_zero, List.set_cons_succ]
        refine wpAnyH_ready (rs := [22]) (by kernel_rfl) (by simp) ?_
        refine (AllReadyH.cons (o := { dst := none, op := Go.Op.store 5 (Go.Operand.tmp 118) (Go.Operand.tmp 113), type := 0, pos := "calculate.go:29", after := #[{ on := 21, ground := Go.Ground.data }, { on := 16, ground := Go.Ground.data }, { on := 14, ground := Go.Ground.chain }, { on := 0, ground := Go.Ground.phase }, { on := 1, ground := Go.Ground.textOnly Go.Departure.lateStores }, { on := 2, ground := Go.Ground.phase }, { on := 3, ground := Go.Ground.phase }, { on := 4, ground := Go.Ground.phase }, { on := 5, ground := Go.Ground.phase }, { on := 6, ground := Go.Ground.phase }, { on := 7, ground := Go.Ground.phase }, { on := 8, ground := Go.Ground.phase }, { on := 9, ground := Go.Ground.phase }, { on := 10, ground := Go.Ground.phase }, { on := 11, ground := Go.Ground.phase }, { on := 12, ground := Go.Ground.phase }, { on := 13, ground := Go.Ground.phase }, { on := 14, ground := Go.Ground.phase }, { on := 15, ground := Go.Ground.phase }, { on := 16, ground := Go.Ground.phase }, { on := 17, ground := Go.Ground.textOnly Go.Departure.lateStores }], guard := none }) rfl (fun K hK => ?_) AllReadyH.nil)
        · skip
          obtain ⟨hc, hf⟩ := S0.out.cp
          go_simp
          clear hc hf
          have q := S0.out.stA (Alu.daaR y.s.r.a y.s.r.f) (daaR_b _ _).1 (daaR_b _ _).2
          have s' := q.1
          have m' := q.2
          clear q
          have HO' := Lib.hid (m'.has HO.out NO.out)
          have NO' := Lib.hid (m'.far HO.out.1 NO.out)
          clear HO NO
          have HO := HO'
          have NO := NO'
          clear HO' NO'
          refine hK.out _ _ ?s39 (fun hNew => ?r39)
          case s39 => exact ⟨HO.out.2.1, trivial⟩
          clear hK K hHeld
          have hHeld := hNew
          clear hNew
          generalize World.setCell u0 ⟨P, 0, none⟩ (.int .u8 (Alu.daaR y.s.r.a y.s.r.f)) = w1 at hHeld s' m' HO ⊢
          have M1 := Lib.hid (M0.out.trans m')
          obtain ⟨y1, hy⟩ : ∃ q_, q_ = setA (Alu.daaR y.s.r.a y.s.r.f) y := ⟨_, rfl⟩
          rw [← hy] at s'
          have Y1 := Lib.hid hy
          have S1 := Lib.hid s'
          clear s' m' hy
          refine wpAnyH_take (i := 23) (oi := { dst := some 119, op := Go.Op.nilCheck (Go.Operand.tmp 99), type := 0, pos := "calculate.go:29", after := #[{ on := 1, ground := Go.Ground.data }, { on := 0, ground := Go.Ground.phase }, { on := 1, ground := Go.Ground.phase }, { on := 2, ground := Go.Ground.phase }, { on := 3, ground := Go.Ground.phase }, { on := 4, ground := Go.Ground.phase }, { on := 5, ground := Go.Ground.phase }, { on := 6, ground := Go.Ground.phase }, { on := 7, ground := Go.Ground.phase }, { on := 8, ground := Go.Ground.phase }, { on := 9, ground := Go.Ground.phase }, { on := 10, ground := Go.Ground.phase }, { on := 11, ground := Go.Ground.phase }, { on := 12, ground := Go.Ground.phase }, { on := 13, ground := Go.Ground.phase }, { on := 14, ground := Go.Ground.phase }, { on := 15, ground := Go.Ground.phase }, { on := 16, ground := Go.Ground.phase }, { on := 17, ground := Go.Ground.phase }, { on := 18, ground := Go.Ground.phase }, { on := 19, ground := Go.Ground.phase }, { on := 20, ground := Go.Ground.phase }, { on := 21, ground := Go.Ground.phase }, { on := 22, ground := Go.Ground.phase }], guard := none }) (v := ?v40) rfl (by kernel_rfl) (by kernel_rfl) (by kernel_rfl) (fun _ _ _ h => h) (Or.inl ⟨by rfl, ?y40⟩) (by assumption) ?z40
          case y40 => (intro w hSw; (try dsimp only at hSw); go_simp) <;> with_reducible rfl
          try simp only [Act.put, List.setIfInBounds_toArray, List.set_cons_zero, List.set_cons_succ]
          refine wpAnyH_take (i := 24) (oi := { dst := some 120, op := Go.Op.fieldAddr 85 (Go.Operand.tmp 119) 0, type := 0, pos := "calculate.go:29", after := #[{ on := 23, ground := Go.Ground.data }, { on := 0, ground := Go.Ground.phase }, { on := 1, ground := Go.Ground.phase }, { on := 2, ground := Go.Ground.phase }, { on := 3, ground := Go.Ground.phase }, { on := 4, ground := Go.Ground.phase }, { on := 5, ground := Go.Ground.phase }, { on := 6, ground := Go.Ground.phase }, { on := 7, ground := Go.Ground.phase }, { on := 8, ground := Go.Ground.phase }, { on := 9, ground := Go.Ground.phase }, { on := 10, ground := Go.Ground.phase }, { on := 11, ground := Go.Ground.phase }, { on := 12, ground := Go.Ground.phase }, { on := 13, ground := Go.Ground.phase }, { on := 14, ground := Go.Ground.phase }, { on := 15, ground := Go.Ground.phase }, { on := 16, ground := Go.Ground.phase }, { on := 17, ground := Go.Ground.phase }, { on := 18, ground := Go.Ground.phase }, { on := 19, ground := Go.Ground.phase }, { on := 20, ground := Go.Ground.phase }, { on := 21, ground := Go.Ground.phase }, { on := 22, ground := Go.Ground.phase }], guard := none }) (v := ?v41) rfl (by kernel_rfl) (by kernel_rfl) (by kernel_rfl) (fun _ _ _ h => h) (Or.inl ⟨by rfl, ?y41⟩) (by assumption) ?z41
          case y41 => (intro w hSw; (try dsimp only at hSw); go_simp) <;> with_reducible rfl
          try simp only [Act.put, List.setIfInBounds_toArray, List.set_cons_zero, List.set_cons_succ]
          refine wpAnyH_take (i := 25) (oi := { dst := some 121, op := Go.Op.fieldAddr 41 (Go.Operand.tmp 120) 0, type := 0, pos := "calculate.go:29", after := #[{ on := 24, ground := Go.Ground.data }, { on := 0, ground := Go.Ground.phase }, { on := 1, ground := Go.Ground.phase }, { on := 2, ground := Go.Ground.phase }, { on := 3, ground := Go.Ground.phase }, { on := 4, ground := Go.Ground.phase }, { on := 5, ground := Go.Ground.phase }, { on := 6, ground := Go.Ground.phase }, { on := 7, ground := Go.Ground.phase }, { on := 8, ground := Go.Ground.phase }, { on := 9, ground := Go.Ground.phase }, { on := 10, ground := Go.Ground.phase }, { on := 11, ground := Go.Ground.phase }, { on := 12, ground := Go.Ground.phase }, { on := 13, ground := Go.Ground.phase }, { on := 14, ground := Go.Ground.phase }, { on := 15, ground := Go.Ground.phase }, { on := 16, ground := Go.Ground.phase }, { on := 17, ground := Go.Ground.phase }, { on := 18, ground := Go.Ground.phase }, { on := 19, ground := Go.Ground.phase }, { on := 20, ground := Go.Ground.phase }, { on := 21, ground := Go.Ground.phase }, { on := 22, ground := Go.Ground.phase }], guard := none }) (v := ?v42) rfl (by kernel_rfl) (by kernel_rfl) (by kernel_rfl) (fun _ _ _ h => h) (Or.inl ⟨by rfl, ?y42⟩) (by assumption) ?z42
          case y42 => (intro w hSw; (try dsimp only at hSw); go_simp) <;> with_reducible rfl
          try simp only [Act.put, List.setIfInBounds_toArray, List.set_cons_zero, List.set_cons_succ]
          refine wpAnyH_take (i := 26) (oi := { dst := some 122, op := Go.Op.fieldAddr 39 (Go.Operand.tmp 121) 1, type := 0, pos := "calculate.go:29", after := #[{ on := 25, ground := Go.Ground.data }, { on := 0, ground := Go.Ground.phase }, { on := 1, ground := Go.Ground.phase }, { on := 2, ground := Go.Ground.phase }, { on := 3, ground := Go.Ground.phase }, { on := 4, ground := Go.Ground.phase }, { on := 5, ground := Go.Ground.phase }, { on := 6, ground := Go.Ground.phase }, { on := 7, ground := Go.Ground.phase }, { on := 8, ground := Go.Ground.phase }, { on := 9, ground := Go.Ground.phase }, { on := 10, ground := Go.Ground.phase }, { on := 11, ground := Go.Ground.phase }, { on := 12, ground := Go.Ground.phase }, { on := 13, ground := Go.Ground.phase }, { on := 14, ground := Go.Ground.phase }, { on := 15, ground := Go.Ground.phase }, { on := 16, ground := Go.Ground.phase }, { on := 17, ground := Go.Ground.phase }, { on := 18, ground := Go.Ground.phase }, { on := 19, ground := Go.Ground.phase }, { on := 20, ground := Go.Ground.phase }, { on := 21, ground := Go.Ground.phase }, { on := 22, ground := Go.Ground.phase }], guard := none }) (v := ?v43) rfl (by kernel_rfl) (by kernel_rfl) (by kernel_rfl) (fun _ _ _ h => h) (Or.inl ⟨by rfl, ?y43⟩) (by assumption) ?z43
          case y43 => (intro w hSw; (try dsimp only at hSw); go_simp) <;> with_reducible rfl
          try simp only [Act.put, List.setIfInBounds_toArray, List.set_cons_zero, List.set_cons_succ]
          refine wpAnyH_ready (rs := [27]) (by kernel_rfl) (by simp) ?_
          refine (AllReadyH.cons (o := { dst := none, op := Go.Op.store 5 (Go.Operand.tmp 122) (Go.Operand.tmp 114), type := 0, pos := "calculate.go:29", after := #[{ on := 26, ground := Go.Ground.data }, { on := 17, ground := Go.Ground.data }, { on := 22, ground := Go.Ground.chain }, { on := 0, ground := Go.Ground.phase }, { on := 1, ground := Go.Ground.phase }, { on := 2, ground := Go.Ground.phase }, { on := 3, ground := Go.Ground.phase }, { on := 4, ground := Go.Ground.phase }, { on := 5, ground := Go.Ground.phase }, { on := 6, ground := Go.Ground.phase }, { on := 7, ground := Go.Ground.phase }, { on := 8, ground := Go.Ground.phase }, { on := 9, ground := Go.Ground.phase }, { on := 10, ground := Go.Ground.phase }, { on := 11, ground := Go.Ground.phase }, { on := 12, ground := Go.Ground.phase }, { on := 13, ground := Go.Ground.phase }, { on := 14, ground := Go.Ground.phase }, { on := 15, ground := Go.Ground.phase }, { on := 16, ground := Go.Ground.phase }, { on := 17, ground := Go.Ground.phase }, { on := 18, ground := Go.Ground.phase }, { on := 19, ground := Go.Ground.phase }, { on := 20, ground := Go.Ground.phase }, { on := 21, ground := Go.Ground.phase }, { on := 22, ground := Go.Ground.phase }], guard := none }) rfl (fun K hK => ?_) AllReadyH.nil)
          · skip
            obtain ⟨hc, hf⟩ := S1.out.cp
            go_simp
            clear hc hf
            have q := S1.out.stF (Alu.daaF y.s.r.a y.s.r.f) (Alu.FL_b _ _ _ _).1 (Alu.FL_b _ _ _ _).2
            have s' := q.1
            have m' := q.2
            clear q
            have HO' := Lib.hid (m'.has HO.out NO.out)
            have NO' := Lib.hid (m'.far HO.out.1 NO.out)
            clear HO NO
            have HO := HO'
            have NO := NO'
            clear HO' NO'
            refine hK.out _ _ ?s44 (fun hNew => ?r44)
            case s44 => exact ⟨HO.out.2.1, trivial⟩
            clear hK K hHeld
            have hHeld := hNew
            clear hNew
            generalize World.setCell w1 ⟨P, 1, none⟩ (.int .u8 (Alu.daaF y.s.r.a y.s.r.f)) = w2 at hHeld s' m' HO ⊢
            have M2 := Lib.hid (M1.out.trans m')
            obtain ⟨y2, hy⟩ : ∃ q_, q_ = setF (Alu.daaF y.s.r.a y.s.r.f) y1 := ⟨_, rfl⟩
            rw [← hy] at s'
            have Y2 := Lib.hid hy
            have S2 := Lib.hid s'
            clear s' m' hy
            refine wpAnyH_done (by kernel_rfl) ?_ _
            obtain ⟨hc, hf⟩ := S2.out.cp
            have ho := HO.out.2.1
            go_wp2
            first | go_end0 | refine bodyPost_ret (results_none rfl _ _ _) rfl ?_
            refine ⟨rfl, v, ?_, M2.out⟩
            have q := S2.out
            have e := Y2.out.symm
            subst e
            have e := Y1.out.symm
            subst e
            exact Sys.mono (n' := n + 0) q (by omega)
set_option maxHeartbeats 2000000 in
theorem calc_20 (h0 : Sys procD ramC w P R M tb v y n) (hn : n < 960000) (x z s nn : Int) : Calls Tryz.prog 82 #[.pointer (some ⟨P, 0, none⟩), .agg #[.int .i64 20, .int .i64 x, .int .i64 z, .int .i64 s, .int .u16 nn]] w (PE procD ramC P R M tb v w (.tuple #[]) (setF (Alu.FL (Alu.zf y.s.r.f) true true (Alu.cf y.s.r.f)) (setA (255 - y.s.r.a) y)) (n + 0)) := by
  have ab := h0.ab
  have fb := h0.fb
  have hx := fl96 y.s.r.f fb.1 fb.2
  have hxx := cpl8 y.s.r.a ab.1 ab.2
  have S0 := Lib.hid (h0.below (own1 w (.cells #[.int .i64 20, .int .i64 x, .int .i64 z, .int .i64 s, .int .u16 nn] 44)))
  have M0 := Lib.hid (show PM P R M tb v w v (w.alloc (.cells #[.int .i64 20, .int .i64 x, .int .i64 z, .int .i64 s, .int .u16 nn] 44)) from PM.of (own1 w (.cells #[.int .i64 20, .int .i64 x, .int .i64 z, .int .i64 s, .int .u16 nn] 44)))
  have HO := Lib.hid (Has.new w #[.int .i64 20, .int .i64 x, .int .i64 z, .int .i64 s, .int .u16 nn] 44)
  have NO := Lib.hid (h0.new (Nat.le_refl w.heap.size))
  obtain ⟨hc, hf⟩ := S0.out.cp
  clear h0
  go_enter Tryz.func82, Tryz.ntmps82
  go_wp2_with fail
  generalize w.alloc (.cells #[.int .i64 20, .int .i64 x, .int .i64 z, .int .i64 s, .int .u16 nn] 44) = w0 at S0 M0 HO hc hf ⊢
  generalize w.heap.size = ob at HO NO ⊢
  have ho := HO.out.2.1
  (try rw [hxx])
  clear hxx
  have q := S0.out.stA (255 - y.s.r.a) (by omega) (by omega)
  have s' := q.1
  have m' := q.2
  clear q
  generalize (World.setCell w0 ⟨P, 0, none⟩ (.int .u8 (255 - y.s.r.a))) = w1 at s' m' ⊢
  have HO' := Lib.hid (m'.has HO.out NO.out)
  have NO' := Lib.hid (m'.far HO.out.1 NO.out)
  clear ho HO NO
  have HO := HO'
  have NO := NO'
  clear HO' NO'
  have ho := HO.out.2.1
  have M1 := Lib.hid (M0.out.trans m')
  obtain ⟨y1, hy⟩ : ∃ q_, q_ = setA (255 - y.s.r.a) y := ⟨_, rfl⟩
  rw [← hy] at s'
  have Y1 := Lib.hid hy
  clear hc hf
  obtain ⟨hc, hf⟩ := s'.cp
  have S1 := Lib.hid s'
  clear s' m' hy
  with_reducible refine (kept_p S1.out (by omega) 144).mono ?_
  rintro e w2 ⟨rfl, v2, s', m'⟩
  have HO' := Lib.hid (m'.has HO.out NO.out)
  have NO' := Lib.hid (m'.far HO.out.1 NO.out)
  clear ho HO NO
  have HO := HO'
  have NO := NO'
  clear HO' NO'
  have ho := HO.out.2.1
  have M2 := Lib.hid (M1.out.trans m')
  obtain ⟨y2, hy⟩ : ∃ q_, q_ = y1 := ⟨_, rfl⟩
  rw [← hy] at s'
  have Y2 := Lib.hid hy
  clear hc hf
  obtain ⟨hc, hf⟩ := s'.cp
  have S2 := Lib.hid s'
  clear s' m' hy
  have e2 : y1.s.r.f = y.s.r.f := by rw [Y1.out]; rfl
  rw [e2]
  have E2 := Lib.hid e2
  clear e2
  go_wp2
  have Q := Lib.hid (S2.out.stF (Alu.FL (Alu.zf y.s.r.f) true true (Alu.cf y.s.r.f)) (Alu.FL_b _ _ _ _).1 (Alu.FL_b _ _ _ _).2)
  first | go_end0 | refine bodyPost_ret (results_none rfl _ _ _) rfl ?_
  refine ⟨rfl, v2, ?_, M2.out.trans Q.out.2⟩
  have q := Q.out.1
  have e := Y2.out.symm
  subst e
  have e := Y1.out.symm
  subst e
  exact Sys.mono (n' := n + 0) q (by omega)
set_option maxHeartbeats 2000000 in
theorem calc_21 (h0 : Sys procD ramC w P R M tb v y n) (hn : n < 960000) (x z s nn : Int) : Calls Tryz.prog 82 #[.pointer (some ⟨P, 0, none⟩), .agg #[.int .i64 21, .int .i64 x, .int .i64 z, .int .i64 s, .int .u16 nn]] w (PE procD ramC P R M tb v w (.tuple #[]) (setF (Alu.FL (Alu.zf y.s.r.f) false false true) y) (n + 0)) := by
  have fb := h0.fb
  have hx := fl128 y.s.r.f fb.1 fb.2
  have S0 := Lib.hid (h0.below (own1 w (.cells #[.int .i64 21, .int .i64 x, .int .i64 z, .int .i64 s, .int .u16 nn] 44)))
  have M0 := Lib.hid (show PM P R M tb v w v (w.alloc (.cells #[.int .i64 21, .int .i64 x, .int .i64 z, .int .i64 s, .int .u16 nn] 44)) from PM.of (own1 w (.cells #[.int .i64 21, .int .i64 x, .int .i64 z, .int .i64 s, .int .u16 nn] 44)))
  have HO := Lib.hid (Has.new w #[.int .i64 21, .int .i64 x, .int .i64 z, .int .i64 s, .int .u16 nn] 44)
  have NO := Lib.hid (h0.new (Nat.le_refl w.heap.size))
  obtain ⟨hc, hf⟩ := S0.out.cp
  clear h0
  go_enter Tryz.func82, Tryz.ntmps82
  go_wp2_with fail
  generalize w.alloc (.cells #[.int .i64 21, .int .i64 x, .int .i64 z, .int .i64 s, .int .u16 nn] 44) = w0 at S0 M0 HO hc hf ⊢
  generalize w.heap.size = ob at HO NO ⊢
  have ho := HO.out.2.1
  with_reducible refine (kept_p S0.out (by omega) 128).mono ?_
  rintro e w1 ⟨rfl, v1, s', m'⟩
  have HO' := Lib.hid (m'.has HO.out NO.out)
  have NO' := Lib.hid (m'.far HO.out.1 NO.out)
  clear ho HO NO
  have HO := HO'
  have NO := NO'
  clear HO' NO'
  have ho := HO.out.2.1
  have M1 := Lib.hid (M0.out.trans m')
  obtain ⟨y1, hy⟩ : ∃ q_, q_ = y := ⟨_, rfl⟩
  rw [← hy] at s'
  have Y1 := Lib.hid hy
  clear hc hf
  obtain ⟨hc, hf⟩ := s'.cp
  have S1 := Lib.hid s'
  clear s' m' hy
  go_wp2
  have Q := Lib.hid (S1.out.stF (Alu.FL (Alu.zf y.s.r.f) false false true) (Alu.FL_b _ _ _ _).1 (Alu.FL_b _ _ _ _).2)
  first | go_end0 | refine bodyPost_ret (results_none rfl _ _ _) rfl ?_
  refine ⟨rfl, v1, ?_, M1.out.trans Q.out.2⟩
  have q := Q.out.1
  have e := Y1.out.symm
  subst e
  exact Sys.mono (n' := n + 0) q (by omega)
set_option maxHeartbeats 2000000 in
theorem calc_22 (h0 : Sys procD ramC w P R M tb v y n) (hn : n < 960000) (x z s nn : Int) : Calls Tryz.prog 82 #[.pointer (some ⟨P, 0, none⟩), .agg #[.int .i64 22, .int .i64 x, .int .i64 z, .int .i64 s, .int .u16 nn]] w (PE procD ramC P R M tb v w (.tuple #[]) (setF (Alu.FL (Alu.zf y.s.r.f) false false (!Alu.cf y.s.r.f)) y) (n + 0)) := by
  have fb := h0.fb
  have hx := fl144 y.s.r.f fb.1 fb.2
  have S0 := Lib.hid (h0.below (own1 w (.cells #[.int .i64 22, .int .i64 x, .int .i64 z, .int .i64 s, .int .u16 nn] 44)))
  have M0 := Lib.hid (show PM P R M tb v w v (w.alloc (.cells #[.int .i64 22, .int .i64 x, .int .i64 z, .int .i64 s, .int .u16 nn] 44)) from PM.of (own1 w (.cells #[.int .i64 22, .int .i64 x, .int .i64 z, .int .i64 s, .int .u16 nn] 44)))
  have HO := Lib.hid (Has.new w #[.int .i64 22, .int .i64 x, .int .i64 z, .int .i64 s, .int .u16 nn] 44)
  have NO := Lib.hid (h0.new (Nat.le_refl w.heap.size))
  obtain ⟨hc, hf⟩ := S0.out.cp
  clear h0
  go_enter Tryz.func82, Tryz.ntmps82
  go_wp2_with fail
  generalize w.alloc (.cells #[.int .i64 22, .int .i64 x, .int .i64 z, .int .i64 s, .int .u16 nn] 44) = w0 at S0 M0 HO hc hf ⊢
  generalize w.heap.size = ob at HO NO ⊢
  have ho := HO.out.2.1
  with_reducible refine (kept_p S0.out (by omega) 144).mono ?_
  rintro e w1 ⟨rfl, v1, s', m'⟩
  have HO' := Lib.hid (m'.has HO.out NO.out)
  have NO' := Lib.hid (m'.far HO.out.1 NO.out)
  clear ho HO NO
  have HO := HO'
  have NO := NO'
  clear HO' NO'
  have ho := HO.out.2.1
  have M1 := Lib.hid (M0.out.trans m')
  obtain ⟨y1, hy⟩ : ∃ q_, q_ = y := ⟨_, rfl⟩
  rw [← hy] at s'
  have Y1 := Lib.hid hy
  clear hc hf
  obtain ⟨hc, hf⟩ := s'.cp
  have S1 := Lib.hid s'
  clear s' m' hy
  go_wp2
  have Q := Lib.hid (S1.out.stF (Alu.FL (Alu.zf y.s.r.f) false false (!Alu.cf y.s.r.f)) (Alu.FL_b _ _ _ _).1 (Alu.FL_b _ _ _ _).2)
  first | go_end0 | refine bodyPost_ret (results_none rfl _ _ _) rfl ?_
  refine ⟨rfl, v1, ?_, M1.out.trans Q.out.2⟩
  have q := Q.out.1
  have e := Y1.out.symm
  subst e
  exact Sys.mono (n' := n + 0) q (by omega)
end
end Go.Proofs.YtngdogldgcgnjaaGreat
