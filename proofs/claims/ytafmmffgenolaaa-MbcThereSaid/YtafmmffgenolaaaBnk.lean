/-
  The bank, and the place, that a map shows: for every map; no condition but that each number fits.
-/
import Derived.Test.YtafmmffgenolaaaCmb
import Derived.Deep.Cut
namespace Go.Proofs.Ytafmmffgenolaaa
open Go.ChangeShapes Go.WideShapes Go.ChangeAt Go.RowKit
set_option linter.unusedVariables false
set_option linter.unusedSimpArgs false
set_option maxRecDepth 100000
set_option maxHeartbeats 1000000 in
theorem lower_c (m : MV) (b v : Int) (hm : m.ok) (hb : b < 16384) (e : selV m b = v) (w : World) : Calls Try.prog 29 #[.agg #[.int .i64 m.k, .int .i64 m.n, .int .i64 m.r, .bool m.on, .bool m.mo, .int .i64 m.lo, .int .i64 m.hi, .int .u8 m.la]] w fun e w' => e = .returned (.int .i64 v) ∧ Below w.heap.size w w' := by
  subst e
  obtain ⟨k, n, r, on, mo, lo, hi, la⟩ := m
  obtain ⟨⟨k0, k1⟩, ⟨n0, n1⟩, ⟨r0, r1⟩, ⟨l0, l1⟩, ⟨h0, h1⟩, ⟨q0, q1⟩⟩ := hm
  dsimp only at k0 k1 n0 n1 r0 r1 l0 l1 h0 h1 q0 q1 ⊢
  rcases (by omega : k = 0 ∨ k = 1 ∨ k = 2 ∨ k = 3 ∨ k = 4 ∨ k = 5) with rfl | rfl | rfl | rfl | rfl | rfl
  · have E : selV (⟨0, n, r, on, mo, lo, hi, la⟩ : MV) b = 0 := by unfold selV; dsimp only; rw [if_pos (by omega), if_neg (by omega)]
    rw [E]
    exact bk29_2 n r lo hi la on mo w r0 r1 h0 h1 l0 l1 n0 n1
  · cases mo
    · have E : selV (⟨1, n, r, on, false, lo, hi, la⟩ : MV) b = 0 := by unfold selV; dsimp only; rw [if_pos (by omega), if_pos (by omega), if_neg (by simp)]
      rw [E]
      exact bk29_1 n r lo hi la on false w r0 r1 h0 h1 l0 l1 n0 n1
    · have E : selV (⟨1, n, r, on, true, lo, hi, la⟩ : MV) b = 32 * hi := by unfold selV; dsimp only; rw [if_pos (by omega), if_pos (by omega), if_pos rfl]
      rw [E]
      exact bk29_0 n r lo hi la on true w r0 r1 h0 h1 l0 l1 n0 n1
  · have E : selV (⟨2, n, r, on, mo, lo, hi, la⟩ : MV) b = 0 := by unfold selV; dsimp only; rw [if_pos (by omega), if_neg (by omega)]
    rw [E]
    exact bk29_3 n r lo hi la on mo w r0 r1 h0 h1 l0 l1 n0 n1
  · have E : selV (⟨3, n, r, on, mo, lo, hi, la⟩ : MV) b = 0 := by unfold selV; dsimp only; rw [if_pos (by omega), if_neg (by omega)]
    rw [E]
    exact bk29_4 n r lo hi la on mo w r0 r1 h0 h1 l0 l1 n0 n1
  · have E : selV (⟨4, n, r, on, mo, lo, hi, la⟩ : MV) b = 0 := by unfold selV; dsimp only; rw [if_pos (by omega), if_neg (by omega)]
    rw [E]
    exact bk29_5 n r lo hi la on mo w r0 r1 h0 h1 l0 l1 n0 n1
  · have E : selV (⟨5, n, r, on, mo, lo, hi, la⟩ : MV) b = 0 := by unfold selV; dsimp only; rw [if_pos (by omega), if_neg (by omega)]
    rw [E]
    exact bk29_6 n r lo hi la on mo w r0 r1 h0 h1 l0 l1 n0 n1
set_option maxHeartbeats 1000000 in
theorem upper_c (m : MV) (b v : Int) (hm : m.ok) (hb : 16384 ≤ b) (e : selV m b = v) (w : World) : Calls Try.prog 30 #[.agg #[.int .i64 m.k, .int .i64 m.n, .int .i64 m.r, .bool m.on, .bool m.mo, .int .i64 m.lo, .int .i64 m.hi, .int .u8 m.la]] w fun e w' => e = .returned (.int .i64 v) ∧ Below w.heap.size w w' := by
  subst e
  obtain ⟨k, n, r, on, mo, lo, hi, la⟩ := m
  obtain ⟨⟨k0, k1⟩, ⟨n0, n1⟩, ⟨r0, r1⟩, ⟨l0, l1⟩, ⟨h0, h1⟩, ⟨q0, q1⟩⟩ := hm
  dsimp only at k0 k1 n0 n1 r0 r1 l0 l1 h0 h1 q0 q1 ⊢
  rcases (by omega : k = 0 ∨ k = 1 ∨ k = 2 ∨ k = 3 ∨ k = 4 ∨ k = 5) with rfl | rfl | rfl | rfl | rfl | rfl
  · have E : selV (⟨0, n, r, on, mo, lo, hi, la⟩ : MV) b = 1 := by unfold selV; dsimp only; rw [if_neg (by omega), if_pos (by omega)]
    rw [E]
    exact bk30_7 n r lo hi la on mo w r0 r1 h0 h1 l0 l1 n0 n1
  · have E : selV (⟨1, n, r, on, mo, lo, hi, la⟩ : MV) b = 32 * hi + lo := by unfold selV; dsimp only; rw [if_neg (by omega), if_neg (by omega), if_pos (by omega)]
    rw [E]
    exact bk30_8 n r lo hi la on mo w r0 r1 h0 h1 l0 l1 n0 n1
  · have E : selV (⟨2, n, r, on, mo, lo, hi, la⟩ : MV) b = lo := by unfold selV; dsimp only; rw [if_neg (by omega), if_neg (by omega), if_neg (by omega), if_pos (by omega)]
    rw [E]
    exact bk30_9 n r lo hi la on mo w r0 r1 h0 h1 l0 l1 n0 n1
  · have E : selV (⟨3, n, r, on, mo, lo, hi, la⟩ : MV) b = lo := by unfold selV; dsimp only; rw [if_neg (by omega), if_neg (by omega), if_neg (by omega), if_neg (by omega), if_pos (by omega)]
    rw [E]
    exact bk30_10 n r lo hi la on mo w r0 r1 h0 h1 l0 l1 n0 n1
  · have E : selV (⟨4, n, r, on, mo, lo, hi, la⟩ : MV) b = 0 := by unfold selV; dsimp only; rw [if_neg (by omega), if_neg (by omega), if_neg (by omega), if_neg (by omega), if_neg (by omega), if_neg (by omega)]
    rw [E]
    exact bk30_11 n r lo hi la on mo w r0 r1 h0 h1 l0 l1 n0 n1
  · have E : selV (⟨5, n, r, on, mo, lo, hi, la⟩ : MV) b = lo := by unfold selV; dsimp only; rw [if_neg (by omega), if_neg (by omega), if_neg (by omega), if_neg (by omega), if_neg (by omega), if_pos (by omega)]
    rw [E]
    exact bk30_12 n r lo hi la on mo w r0 r1 h0 h1 l0 l1 n0 n1
set_option maxHeartbeats 1000000 in
theorem rbank_c (m : MV) (a v : Int) (hm : m.ok) (ha : 0 ≤ a) (ha2 : a < 65536) (e : bankV m (a % 32768) = v) (w : World) : Calls Try.prog 20 #[.agg #[.int .i64 m.k, .int .i64 m.n, .int .i64 m.r, .bool m.on, .bool m.mo, .int .i64 m.lo, .int .i64 m.hi, .int .u8 m.la], .int .u16 a] w fun e w' => e = .returned (.int .i64 v) ∧ Below w.heap.size w w' := by
  subst e
  unfold bankV
  obtain ⟨k, n, r, on, mo, lo, hi, la⟩ := m
  obtain ⟨⟨k0, k1⟩, ⟨n0, n1⟩, ⟨r0, r1⟩, ⟨l0, l1⟩, ⟨h0, h1⟩, ⟨q0, q1⟩⟩ := hm
  dsimp only at k0 k1 n0 n1 r0 r1 l0 l1 h0 h1 q0 q1 ⊢
  rcases (by omega : k = 0 ∨ k = 1 ∨ k = 2 ∨ k = 3 ∨ k = 4 ∨ k = 5) with rfl | rfl | rfl | rfl | rfl | rfl
  · by_cases c0 : a % 32768 < 16384
    · have E : selV (⟨0, n, r, on, mo, lo, hi, la⟩ : MV) (a % 32768) = 0 := by unfold selV; dsimp only; rw [if_pos (by omega), if_neg (by omega)]
      rw [E]
      exact bk20_2 n r lo hi la a on mo w ha ha2 r0 r1 h0 h1 l0 l1 n0 n1 (by omega)
    · have E : selV (⟨0, n, r, on, mo, lo, hi, la⟩ : MV) (a % 32768) = 1 := by unfold selV; dsimp only; rw [if_neg (by omega), if_pos (by omega)]
      rw [E]
      exact bk20_7 n r lo hi la a on mo w ha ha2 r0 r1 h0 h1 l0 l1 n0 n1 (by omega)
  · by_cases c0 : a % 32768 < 16384
    · cases mo
      · have E : selV (⟨1, n, r, on, false, lo, hi, la⟩ : MV) (a % 32768) = 0 := by unfold selV; dsimp only; rw [if_pos (by omega), if_pos (by omega), if_neg (by simp)]
        rw [E]
        exact bk20_1 n r lo hi la a on false w ha ha2 r0 r1 h0 h1 l0 l1 n0 n1 (by omega)
      · have E : selV (⟨1, n, r, on, true, lo, hi, la⟩ : MV) (a % 32768) = 32 * hi := by unfold selV; dsimp only; rw [if_pos (by omega), if_pos (by omega), if_pos rfl]
        rw [E]
        exact bk20_0 n r lo hi la a on true w ha ha2 r0 r1 h0 h1 l0 l1 n0 n1 (by omega)
    · have E : selV (⟨1, n, r, on, mo, lo, hi, la⟩ : MV) (a % 32768) = 32 * hi + lo := by unfold selV; dsimp only; rw [if_neg (by omega), if_neg (by omega), if_pos (by omega)]
      rw [E]
      exact bk20_8 n r lo hi la a on mo w ha ha2 r0 r1 h0 h1 l0 l1 n0 n1 (by omega)
  · by_cases c0 : a % 32768 < 16384
    · have E : selV (⟨2, n, r, on, mo, lo, hi, la⟩ : MV) (a % 32768) = 0 := by unfold selV; dsimp only; rw [if_pos (by omega), if_neg (by omega)]
      rw [E]
      exact bk20_3 n r lo hi la a on mo w ha ha2 r0 r1 h0 h1 l0 l1 n0 n1 (by omega)
    · have E : selV (⟨2, n, r, on, mo, lo, hi, la⟩ : MV) (a % 32768) = lo := by unfold selV; dsimp only; rw [if_neg (by omega), if_neg (by omega), if_neg (by omega), if_pos (by omega)]
      rw [E]
      exact bk20_9 n r lo hi la a on mo w ha ha2 r0 r1 h0 h1 l0 l1 n0 n1 (by omega)
  · by_cases c0 : a % 32768 < 16384
    · have E : selV (⟨3, n, r, on, mo, lo, hi, la⟩ : MV) (a % 32768) = 0 := by unfold selV; dsimp only; rw [if_pos (by omega), if_neg (by omega)]
      rw [E]
      exact bk20_4 n r lo hi la a on mo w ha ha2 r0 r1 h0 h1 l0 l1 n0 n1 (by omega)
    · have E : selV (⟨3, n, r, on, mo, lo, hi, la⟩ : MV) (a % 32768) = lo := by unfold selV; dsimp only; rw [if_neg (by omega), if_neg (by omega), if_neg (by omega), if_neg (by omega), if_pos (by omega)]
      rw [E]
      exact bk20_10 n r lo hi la a on mo w ha ha2 r0 r1 h0 h1 l0 l1 n0 n1 (by omega)
  · by_cases c0 : a % 32768 < 16384
    · have E : selV (⟨4, n, r, on, mo, lo, hi, la⟩ : MV) (a % 32768) = 0 := by unfold selV; dsimp only; rw [if_pos (by omega), if_neg (by omega)]
      rw [E]
      exact bk20_5 n r lo hi la a on mo w ha ha2 r0 r1 h0 h1 l0 l1 n0 n1 (by omega)
    · have E : selV (⟨4, n, r, on, mo, lo, hi, la⟩ : MV) (a % 32768) = 0 := by unfold selV; dsimp only; rw [if_neg (by omega), if_neg (by omega), if_neg (by omega), if_neg (by omega), if_neg (by omega), if_neg (by omega)]
      rw [E]
      exact bk20_11 n r lo hi la a on mo w ha ha2 r0 r1 h0 h1 l0 l1 n0 n1 (by omega)
  · by_cases c0 : a % 32768 < 16384
    · have E : selV (⟨5, n, r, on, mo, lo, hi, la⟩ : MV) (a % 32768) = 0 := by unfold selV; dsimp only; rw [if_pos (by omega), if_neg (by omega)]
      rw [E]
      exact bk20_6 n r lo hi la a on mo w ha ha2 r0 r1 h0 h1 l0 l1 n0 n1 (by omega)
    · have E : selV (⟨5, n, r, on, mo, lo, hi, la⟩ : MV) (a % 32768) = lo := by unfold selV; dsimp only; rw [if_neg (by omega), if_neg (by omega), if_neg (by omega), if_neg (by omega), if_neg (by omega), if_pos (by omega)]
      rw [E]
      exact bk20_12 n r lo hi la a on mo w ha ha2 r0 r1 h0 h1 l0 l1 n0 n1 (by omega)
set_option maxHeartbeats 2000000 in
theorem bank_l (m : MV) (a sv v : Int) (hm : m.ok) (ha : 0 ≤ a) (ha2 : a < 65536) (c0 : a % 32768 < 16384) (e1 : selV m (a % 32768) = sv) (e2 : sv % m.n = v) (w : World) : Calls Try.prog 19 #[.agg #[.int .i64 m.k, .int .i64 m.n, .int .i64 m.r, .bool m.on, .bool m.mo, .int .i64 m.lo, .int .i64 m.hi, .int .u8 m.la], .int .u16 a] w fun e w' => e = .returned (.int .i64 v) ∧ Below w.heap.size w w' := by
  have CL := Lib.hid (lower_c m (a % 32768) sv hm c0 e1)
  have sb := selV_bd hm (a % 32768)
  rw [e1] at sb
  have CM := Lib.hid (fun W => modulo_c sv m.n W sb.1 (by omega) hm.2.1.1 (by have := hm.2.1.2; omega))
  have hn : 0 < m.n := hm.2.1.1
  rw [e2] at CM
  clear e1 e2 sb hm
  have A0 := Lib.hid ((Has.new w #[.int .i64 m.k, .int .i64 m.n, .int .i64 m.r, .bool m.on, .bool m.mo, .int .i64 m.lo, .int .i64 m.hi, .int .u8 m.la] 29).drew)
  have B0 := Lib.hid ((own1 w (.cells #[.int .i64 m.k, .int .i64 m.n, .int .i64 m.r, .bool m.on, .bool m.mo, .int .i64 m.lo, .int .i64 m.hi, .int .u8 m.la] 29)).drew)
  go_enter Try.func19, Try.ntmps19
  go_upto_region 4 with (fail)
  refine wp_region_held_drew (S := (fun w' => (∀ o, w'.cell? ⟨w.heap.size, o, none⟩ = #[.int .i64 m.k, .int .i64 m.n, .int .i64 m.r, .bool m.on, .bool m.mo, .int .i64 m.lo, .int .i64 m.hi, .int .u8 m.la][o]?) ∧ True)) (by kernel_rfl) ⟨A0.out.2.1, trivial⟩ (fun hHeld => ?_)
  generalize World.drew (w.alloc (.cells #[.int .i64 m.k, .int .i64 m.n, .int .i64 m.r, .bool m.on, .bool m.mo, .int .i64 m.lo, .int .i64 m.hi, .int .u8 m.la] 29)) = u0 at hHeld A0 B0 ⊢
  refine wpAnyH_take (i := 0) (oi := { dst := some 11, op := Go.Op.load 29 (Go.Operand.tmp 2), type := 29, pos := "mbc.go:135", after := #[], guard := none }) (v := ?v1) rfl (by kernel_rfl) (by kernel_rfl) (by kernel_rfl) (fun _ _ _ h => h) (Or.inl ⟨by rfl, ?y1⟩) (by assumption) ?z1
  case y1 => (intro w hSw; (try dsimp only at hSw); go_simp) <;> with_reducible rfl
  try simp only [Act.put, List.setIfInBounds_toArray, List.set_cons_zero, List.set_cons_succ]
  refine wpAnyH_take (i := 2) (oi := { dst := some 13, op := Go.Op.fieldAddr 29 (Go.Operand.tmp 2) 1, type := 0, pos := "mbc.go:135", after := #[], guard := none }) (v := ?v2) rfl (by kernel_rfl) (by kernel_rfl) (by kernel_rfl) (fun _ _ _ h => h) (Or.inl ⟨by rfl, ?y2⟩) (by assumption) ?z2
  case y2 => (intro w hSw; (try dsimp only at hSw); go_simp) <;> with_reducible rfl
  try simp only [Act.put, List.setIfInBounds_toArray, List.set_cons_zero, List.set_cons_succ]
  refine wpAnyH_take (i := 3) (oi := { dst := some 14, op := Go.Op.load 3 (Go.Operand.tmp 13), type := 3, pos := "mbc.go:135", after := #[{ on := 2, ground := Go.Ground.data }], guard := none }) (v := ?v3) rfl (by kernel_rfl) (by kernel_rfl) (by kernel_rfl) (fun _ _ _ h => h) (Or.inl ⟨by rfl, ?y3⟩) (by assumption) ?z3
  case y3 => (intro w hSw; (try dsimp only at hSw); go_simp) <;> with_reducible rfl
  try simp only [Act.put, List.setIfInBounds_toArray, List.set_cons_zero, List.set_cons_succ]
  refine wpAnyH_ready (rs := [1]) (by kernel_rfl) (by simp) ?_
  refine (AllReadyH.cons (o := { dst := some 12, op := Go.Op.call { callee := Go.Callee.value (Go.Operand.func 29), args := #[Go.Operand.tmp 11], argTypes := #[29] }, type := 3, pos := "mbc.go:135", after := #[{ on := 0, ground := Go.Ground.data }], guard := none }) rfl (fun K hK => ?_) AllReadyH.nil)
  · skip
    go_simp
    with_reducible refine (CL.out _).mono ?_
    rintro e w1 ⟨rfl, hb⟩
    have B1 := Lib.hid (via B0.out hb)
    have A1 := Lib.hid (A0.out.below hb)
    clear hb
    refine hK.out _ _ ?s4 (fun hNew => ?r4)
    case s4 => exact ⟨A1.out.2.1, trivial⟩
    clear hK K hHeld
    have hHeld := hNew
    clear hNew
    refine wpAnyH_ready (rs := [4]) (by kernel_rfl) (by simp) ?_
    refine (AllReadyH.cons (o := { dst := some 15, op := Go.Op.call { callee := Go.Callee.value (Go.Operand.func 28), args := #[Go.Operand.tmp 12, Go.Operand.tmp 14], argTypes := #[3, 3] }, type := 3, pos := "mbc.go:135", after := #[{ on := 1, ground := Go.Ground.data }, { on := 3, ground := Go.Ground.data }, { on := 1, ground := Go.Ground.chain }], guard := none }) rfl (fun K hK => ?_) AllReadyH.nil)
    · skip
      go_simp
      with_reducible refine (CM.out _).mono ?_
      rintro e w2 ⟨rfl, rfl⟩
      refine hK.out _ _ ?s5 (fun hNew => ?r5)
      case s5 => exact ⟨A1.out.2.1, trivial⟩
      clear hK K hHeld
      have hHeld := hNew
      clear hNew
      refine wpAnyH_take (i := 5) (oi := { dst := some 4, op := Go.Op.assign (Go.Operand.tmp 15), type := 3, pos := "mbc.go:135", after := #[{ on := 4, ground := Go.Ground.data }, { on := 4, ground := Go.Ground.chain }, { on := 0, ground := Go.Ground.phase }, { on := 1, ground := Go.Ground.phase }, { on := 2, ground := Go.Ground.phase }, { on := 3, ground := Go.Ground.phase }, { on := 4, ground := Go.Ground.phase }], guard := none }) (v := ?v6) rfl (by kernel_rfl) (by kernel_rfl) (by kernel_rfl) (fun _ _ _ h => h) (Or.inl ⟨by rfl, ?y6⟩) (by assumption) ?z6
      case y6 => (intro w hSw; (try dsimp only at hSw); go_simp) <;> with_reducible rfl
      try simp only [Act.put, List.setIfInBounds_toArray, List.set_cons_zero, List.set_cons_succ]
      refine wpAnyH_done (by kernel_rfl) ?_ _
      go_wp2
      go_ret
      exact ⟨rfl, B1.out⟩
set_option maxHeartbeats 2000000 in
theorem bank_u (m : MV) (a sv v : Int) (hm : m.ok) (ha : 0 ≤ a) (ha2 : a < 65536) (c0 : 16384 ≤ a % 32768) (e1 : selV m (a % 32768) = sv) (e2 : sv % m.n = v) (w : World) : Calls Try.prog 19 #[.agg #[.int .i64 m.k, .int .i64 m.n, .int .i64 m.r, .bool m.on, .bool m.mo, .int .i64 m.lo, .int .i64 m.hi, .int .u8 m.la], .int .u16 a] w fun e w' => e = .returned (.int .i64 v) ∧ Below w.heap.size w w' := by
  have CL := Lib.hid (upper_c m (a % 32768) sv hm c0 e1)
  have sb := selV_bd hm (a % 32768)
  rw [e1] at sb
  have CM := Lib.hid (fun W => modulo_c sv m.n W sb.1 (by omega) hm.2.1.1 (by have := hm.2.1.2; omega))
  have hn : 0 < m.n := hm.2.1.1
  rw [e2] at CM
  clear e1 e2 sb hm
  have A0 := Lib.hid ((Has.new w #[.int .i64 m.k, .int .i64 m.n, .int .i64 m.r, .bool m.on, .bool m.mo, .int .i64 m.lo, .int .i64 m.hi, .int .u8 m.la] 29).drew)
  have B0 := Lib.hid ((own1 w (.cells #[.int .i64 m.k, .int .i64 m.n, .int .i64 m.r, .bool m.on, .bool m.mo, .int .i64 m.lo, .int .i64 m.hi, .int .u8 m.la] 29)).drew)
  go_enter Try.func19, Try.ntmps19
  go_upto_region 5 with (fail)
  refine wp_region_held_drew (S := (fun w' => (∀ o, w'.cell? ⟨w.heap.size, o, none⟩ = #[.int .i64 m.k, .int .i64 m.n, .int .i64 m.r, .bool m.on, .bool m.mo, .int .i64 m.lo, .int .i64 m.hi, .int .u8 m.la][o]?) ∧ True)) (by kernel_rfl) ⟨A0.out.2.1, trivial⟩ (fun hHeld => ?_)
  generalize World.drew (w.alloc (.cells #[.int .i64 m.k, .int .i64 m.n, .int .i64 m.r, .bool m.on, .bool m.mo, .int .i64 m.lo, .int .i64 m.hi, .int .u8 m.la] 29)) = u0 at hHeld A0 B0 ⊢
  refine wpAnyH_take (i := 0) (oi := { dst := some 16, op := Go.Op.load 29 (Go.Operand.tmp 2), type := 29, pos := "mbc.go:137", after := #[], guard := none }) (v := ?v7) rfl (by kernel_rfl) (by kernel_rfl) (by kernel_rfl) (fun _ _ _ h => h) (Or.inl ⟨by rfl, ?y7⟩) (by assumption) ?z7
  case y7 => (intro w hSw; (try dsimp only at hSw); go_simp) <;> with_reducible rfl
  try simp only [Act.put, List.setIfInBounds_toArray, List.set_cons_zero, List.set_cons_succ]
  refine wpAnyH_take (i := 2) (oi := { dst := some 18, op := Go.Op.fieldAddr 29 (Go.Operand.tmp 2) 1, type := 0, pos := "mbc.go:137", after := #[], guard := none }) (v := ?v8) rfl (by kernel_rfl) (by kernel_rfl) (by kernel_rfl) (fun _ _ _ h => h) (Or.inl ⟨by rfl, ?y8⟩) (by assumption) ?z8
  case y8 => (intro w hSw; (try dsimp only at hSw); go_simp) <;> with_reducible rfl
  try simp only [Act.put, List.setIfInBounds_toArray, List.set_cons_zero, List.set_cons_succ]
  refine wpAnyH_take (i := 3) (oi := { dst := some 19, op := Go.Op.load 3 (Go.Operand.tmp 18), type := 3, pos := "mbc.go:137", after := #[{ on := 2, ground := Go.Ground.data }], guard := none }) (v := ?v9) rfl (by kernel_rfl) (by kernel_rfl) (by kernel_rfl) (fun _ _ _ h => h) (Or.inl ⟨by rfl, ?y9⟩) (by assumption) ?z9
  case y9 => (intro w hSw; (try dsimp only at hSw); go_simp) <;> with_reducible rfl
  try simp only [Act.put, List.setIfInBounds_toArray, List.set_cons_zero, List.set_cons_succ]
  refine wpAnyH_ready (rs := [1]) (by kernel_rfl) (by simp) ?_
  refine (AllReadyH.cons (o := { dst := some 17, op := Go.Op.call { callee := Go.Callee.value (Go.Operand.func 30), args := #[Go.Operand.tmp 16], argTypes := #[29] }, type := 3, pos := "mbc.go:137", after := #[{ on := 0, ground := Go.Ground.data }], guard := none }) rfl (fun K hK => ?_) AllReadyH.nil)
  · skip
    go_simp
    with_reducible refine (CL.out _).mono ?_
    rintro e w1 ⟨rfl, hb⟩
    have B1 := Lib.hid (via B0.out hb)
    have A1 := Lib.hid (A0.out.below hb)
    clear hb
    refine hK.out _ _ ?s10 (fun hNew => ?r10)
    case s10 => exact ⟨A1.out.2.1, trivial⟩
    clear hK K hHeld
    have hHeld := hNew
    clear hNew
    refine wpAnyH_ready (rs := [4]) (by kernel_rfl) (by simp) ?_
    refine (AllReadyH.cons (o := { dst := some 20, op := Go.Op.call { callee := Go.Callee.value (Go.Operand.func 28), args := #[Go.Operand.tmp 17, Go.Operand.tmp 19], argTypes := #[3, 3] }, type := 3, pos := "mbc.go:137", after := #[{ on := 1, ground := Go.Ground.data }, { on := 3, ground := Go.Ground.data }, { on := 1, ground := Go.Ground.chain }], guard := none }) rfl (fun K hK => ?_) AllReadyH.nil)
    · skip
      go_simp
      with_reducible refine (CM.out _).mono ?_
      rintro e w2 ⟨rfl, rfl⟩
      refine hK.out _ _ ?s11 (fun hNew => ?r11)
      case s11 => exact ⟨A1.out.2.1, trivial⟩
      clear hK K hHeld
      have hHeld := hNew
      clear hNew
      refine wpAnyH_take (i := 5) (oi := { dst := some 4, op := Go.Op.assign (Go.Operand.tmp 20), type := 3, pos := "mbc.go:137", after := #[{ on := 4, ground := Go.Ground.data }, { on := 4, ground := Go.Ground.chain }, { on := 0, ground := Go.Ground.phase }, { on := 1, ground := Go.Ground.phase }, { on := 2, ground := Go.Ground.phase }, { on := 3, ground := Go.Ground.phase }, { on := 4, ground := Go.Ground.phase }], guard := none }) (v := ?v12) rfl (by kernel_rfl) (by kernel_rfl) (by kernel_rfl) (fun _ _ _ h => h) (Or.inl ⟨by rfl, ?y12⟩) (by assumption) ?z12
      case y12 => (intro w hSw; (try dsimp only at hSw); go_simp) <;> with_reducible rfl
      try simp only [Act.put, List.setIfInBounds_toArray, List.set_cons_zero, List.set_cons_succ]
      refine wpAnyH_done (by kernel_rfl) ?_ _
      go_wp2
      go_ret
      exact ⟨rfl, B1.out⟩
theorem bank_c (m : MV) (a v : Int) (hm : m.ok) (ha : 0 ≤ a) (ha2 : a < 65536) (e : bankV m (a % 32768) = v) (w : World) : Calls Try.prog 19 #[.agg #[.int .i64 m.k, .int .i64 m.n, .int .i64 m.r, .bool m.on, .bool m.mo, .int .i64 m.lo, .int .i64 m.hi, .int .u8 m.la], .int .u16 a] w fun e w' => e = .returned (.int .i64 v) ∧ Below w.heap.size w w' := by
  by_cases c0 : a % 32768 < 16384
  · exact bank_l m a _ v hm ha ha2 c0 rfl e w
  · exact bank_u m a _ v hm ha ha2 (by omega) rfl e w
set_option maxHeartbeats 1000000 in
theorem rom_c (m : MV) (a v : Int) (hm : m.ok) (ha : 0 ≤ a) (ha2 : a < 65536) (e : romV m a = v) (w : World) : Calls Try.prog 21 #[.agg #[.int .i64 m.k, .int .i64 m.n, .int .i64 m.r, .bool m.on, .bool m.mo, .int .i64 m.lo, .int .i64 m.hi, .int .u8 m.la], .int .u16 a] w fun e w' => e = .returned (.int .i64 v) ∧ Below w.heap.size w w' := by
  obtain ⟨z, hz⟩ : ∃ z, bankV m (a % 32768) = z := ⟨_, rfl⟩
  have zb := bankV_bd hm (a % 32768)
  rw [hz] at zb
  have z0 := zb.1
  have z1 : z < 512 := by have := hm.2.1.2; omega
  unfold romV at e
  rw [hz] at e
  have BC := Lib.hid (fun W => bank_c m a z hm ha ha2 hz W)
  have E := Lib.hid e
  clear e hz zb hm
  go_enter Try.func21, Try.ntmps21
  go_wp2_with fail
  with_reducible refine (BC.out _).mono ?_
  rintro e w1 ⟨rfl, hb⟩
  have B1 := Lib.hid (via (own1 w _) hb)
  clear hb
  go_wp2
  go_ret
  exact ⟨by rw [← E.out]; rfl, B1.out⟩
set_option maxHeartbeats 1000000 in
theorem rrom_c (m : MV) (a v : Int) (hm : m.ok) (ha : 0 ≤ a) (ha2 : a < 65536) (e : romV m a = v) (w : World) : Calls Try.prog 22 #[.agg #[.int .i64 m.k, .int .i64 m.n, .int .i64 m.r, .bool m.on, .bool m.mo, .int .i64 m.lo, .int .i64 m.hi, .int .u8 m.la], .int .u16 a] w fun e w' => e = .returned (.int .i64 v) ∧ Below w.heap.size w w' := by
  obtain ⟨z, hz⟩ : ∃ z, bankV m (a % 32768) = z := ⟨_, rfl⟩
  have zb := bankV_bd hm (a % 32768)
  rw [hz] at zb
  have z0 := zb.1
  have z1 : z < 512 := by have := hm.2.1.2; omega
  unfold romV at e
  rw [hz] at e
  have BC := Lib.hid (fun W => rbank_c m a z hm ha ha2 hz W)
  have E := Lib.hid e
  clear e hz zb hm
  go_enter Try.func22, Try.ntmps22
  go_wp2_with fail
  with_reducible refine (BC.out _).mono ?_
  rintro e w1 ⟨rfl, hb⟩
  have B1 := Lib.hid (via (own1 w _) hb)
  clear hb
  go_wp2
  go_ret
  exact ⟨by rw [← E.out]; rfl, B1.out⟩
end Go.Proofs.Ytafmmffgenolaaa
