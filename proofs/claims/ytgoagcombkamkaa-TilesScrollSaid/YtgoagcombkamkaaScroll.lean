/-
  The walk through TilesScroll: for every memory, view and place.
-/
import Derived.Test.YtgoagcombkamkaaOpn
import Derived.Deep.Cut
import Derived.BigQuiet
import Derived.WalkSmall
namespace Go.Proofs.Ytgoagcombkamkaa
open Go.ChangeShapes Go.WideShapes Go.ChangeAt Go.RowKit
set_option linter.unusedVariables false
set_option linter.unusedSimpArgs false
set_option maxRecDepth 100000
theorem info26 : (Try.prog.info? 26).map (·.size) = some 5 := by kernel_rfl
/-- A view is stored, at the operation. -/
theorem wp_store_v {op : Oper} {a : Act} {w : World} {K : Act → World → Prop} {Q : Exit → Act → World → Prop} {b : Nat} {A0 : Array Value} (h : Has w b A0) (h0 : A0.size = 5) (A : Array Value) (hs : A.size = 5) (h1 : A.all (·.oneCell') = true)
    (x y : Operand) (ho : op.op = .store 26 x y) (hx : a.eval x = .pointer (some ⟨b, 0, none⟩)) (hy : a.eval y = .agg A)
    (hK : ∀ w', Has w' b A → Keeps b w w' → K (a.put op.dst undef) w') : op.wp Try.prog a w K Q := by
  refine wp_store_mid 26 x y ho b 0 A hx hy (by have := h.there; rw [h0] at this; rw [hs]; exact this) (by rw [info26, hs]) h1 ?_
  exact hK _ (h.puts (by rw [h0, hs])) (Keeps.setCells _ 0 (Keeps.refl b w))
/-- One byte of a block is stored. -/
theorem store_c {ops : Array Oper} {rest : List Oper} {op : Oper} {a : Act} {w : World} {Q : Exit → Act → World → Prop} {b : Nat} {A : Array Value} (h : Has w b A)
    (hgd : op.guard = none) (x y : Operand) (ho : op.op = .store 5 x y) (o : Nat) (hx : a.eval x = .pointer (some ⟨b, o, none⟩)) (z old : Int) (hy : a.eval y = .int .u8 z) (hc : A[o]? = some (.int .u8 old)) (A2 : Array Value) (hA : A.setIfInBounds o (.int .u8 z) = A2)
    (hK : ∀ w', Has w' b A2 → Keeps b w w' → wpList Try.prog ops Q rest (a.put op.dst undef) w') : wpList Try.prog ops Q (op :: rest) a w := by
  have ho2 : o < A.size := by
    by_cases h : o < A.size
    · exact h
    · rw [Array.getElem?_eq_none (by omega)] at hc; cases hc
  have hP := h.set o (.int .u8 z) ho2
  rw [hA] at hP
  have hs : (storeVar 5 ⟨b, o, none⟩ (.int .u8 z)).run Try.prog w = .ok () (w.setCell ⟨b, o, none⟩ (.int .u8 z)) := by
    have h1 : (w.cell? ⟨b, o, none⟩) = some (.int .u8 old) := (h.2.1 o).trans hc
    have h2 : w.frozen? ⟨b, o, none⟩ = false := h.2.2 o
    simp [go_sem, h1, h2]
  refine wpList_plain hgd fun _ hKK => ?_
  unfold Oper.wp execOp
  simp only [ho, hx, hy, Instr.storeAt, Instr.sureAddr, Sem.run_bind, Sem.run_pure, Result.andThen_ok, hs]
  exact hKK _ _ (hK _ hP ((Keeps.refl b w).setCell o _))
set_option maxHeartbeats 2000000 in
theorem scroll_long (c sx sy wx wy : Int) (c0 : 0 ≤ c) (c1 : c < 256) (sx0 : 0 ≤ sx) (sx1 : sx < 256) (sy0 : 0 ≤ sy) (sy1 : sy < 256) (wx0 : 0 ≤ wx) (wx1 : wx < 256) (wy0 : 0 ≤ wy) (wy1 : wy < 256) (a : Option Addr) (n cp : Nat) (bb x y : Int) (bb0 : 0 ≤ bb) (bb1 : bb < 256) (x0 : 0 ≤ x) (x1 : x < 256) (y0 : 0 ≤ y) (y1 : y < 256) (h : 3000 < n) (w : World) : Calls Try.prog 6 #[.slice a n cp, .agg #[.int .u8 c, .int .u8 sx, .int .u8 sy, .int .u8 wx, .int .u8 wy], .int .u8 bb, .int .u8 x, .int .u8 y] w fun q_ w' => q_ = .returned (.bool true) ∧ Below w.heap.size w w' := by
  suffices hall : ∀ (n_ : Nat) (W0 : World), n_ ≤ W0.heap.size → Below n_ W0 w → Calls Try.prog 6 #[.slice a n cp, .agg #[.int .u8 c, .int .u8 sx, .int .u8 sy, .int .u8 wx, .int .u8 wy], .int .u8 bb, .int .u8 x, .int .u8 y] w fun q_ w' => q_ = .returned (.bool true) ∧ Below n_ W0 w' from hall _ _ (Nat.le_refl _) (Below.refl _ _)
  intro n_ W0 hn hB
  have HN := Lib.hid hn
  have BB := Lib.hid hB
  clear hn hB
  have AW := Lib.hid awake_c
  have hnot : ∀ (x : Bool) (w : World), (Op.unary .not (.bool x)).run Try.prog w = .ok (.bool (!x)) w := fun _ _ => rfl
  have hI : (3000 : Int) < n := by omega
  go_enter Try.func6, Try.ntmps6
  have Q_ := own1 w (.cells #[.int .u8 c, .int .u8 sx, .int .u8 sy, .int .u8 wx, .int .u8 wy] 24)
  have B0 := Lib.hid (vian HN.out BB.out Q_)
  have P0 := Lib.hid (show Has (w.alloc (.cells #[.int .u8 c, .int .u8 sx, .int .u8 sy, .int .u8 wx, .int .u8 wy] 24)) w.heap.size #[.int .u8 c, .int .u8 sx, .int .u8 sy, .int .u8 wx, .int .u8 wy] by simpa using Has.new w #[.int .u8 c, .int .u8 sx, .int .u8 sy, .int .u8 wx, .int .u8 wy] 24)
  have LP := Lib.hid (show n_ ≤ w.heap.size + 0 from Nat.le_add_right_of_le (Nat.le_trans HN.out BB.out.size))
  simp only [Nat.add_zero] at LP
  clear Q_
  go_upto_region 1 with (fail)
  generalize (w.alloc (.cells #[.int .u8 c, .int .u8 sx, .int .u8 sy, .int .u8 wx, .int .u8 wy] 24)) = u0 at B0 P0 ⊢
  generalize w.heap.size = pb at P0 LP  ⊢
  go_wp2_with (fail)
  with_reducible refine (AW.out _).mono ?_
  rintro q_ u1 ⟨rfl, hb⟩
  have B1 := Lib.hid (vian HN.out B0.out hb)
  have P1 := Lib.hid (P0.out.below hb)
  clear hb B0 P0
  go_wp2_with (fail)
  with_reducible refine (AW.out _).mono ?_
  rintro q_ u2 ⟨rfl, hb⟩
  have B2 := Lib.hid (vian HN.out B1.out hb)
  have P2 := Lib.hid (P1.out.below hb)
  clear hb B1 P1
  go_wp2_with (fail)
  all_goals exact bodyPost_ret (v := .bool true) (by simp [results, Try.results6, go_sem]) rfl ⟨rfl, B2.out⟩
set_option maxHeartbeats 8000000 in
theorem scroll_short (c sx sy wx wy : Int) (c0 : 0 ≤ c) (c1 : c < 256) (sx0 : 0 ≤ sx) (sx1 : sx < 256) (sy0 : 0 ≤ sy) (sy1 : sy < 256) (wx0 : 0 ≤ wx) (wx1 : wx < 256) (wy0 : 0 ≤ wy) (wy1 : wy < 256) (a : Option Addr) (n cp : Nat) (F : M) (bb x y : Int) (bb0 : 0 ≤ bb) (bb1 : bb < 256) (x0 : 0 ≤ x) (x1 : x < 256) (y0 : 0 ≤ y) (y1 : y < 256) (h : n ≤ 3000) (w : World) (hM0 : Mem w (.slice a n cp) F) : Calls Try.prog 6 #[.slice a n cp, .agg #[.int .u8 c, .int .u8 sx, .int .u8 sy, .int .u8 wx, .int .u8 wy], .int .u8 bb, .int .u8 x, .int .u8 y] w fun q_ w' => q_ = .returned (.bool true) ∧ Below w.heap.size w w' := by
  suffices hall : ∀ (n_ : Nat) (W0 : World), n_ ≤ W0.heap.size → Below n_ W0 w → MemB n_ W0 (.slice a n cp) F → Calls Try.prog 6 #[.slice a n cp, .agg #[.int .u8 c, .int .u8 sx, .int .u8 sy, .int .u8 wx, .int .u8 wy], .int .u8 bb, .int .u8 x, .int .u8 y] w fun q_ w' => q_ = .returned (.bool true) ∧ Below n_ W0 w' from hall _ _ (Nat.le_refl _) (Below.refl _ _) hM0
  clear hM0
  intro n_ W0 hn hB hM0
  have HN := Lib.hid hn
  have BB := Lib.hid hB
  clear hn hB
  have HM0 := Lib.hid hM0
  clear hM0
  have AW := Lib.hid awake_c
  have hnot : ∀ (x : Bool) (w : World), (Op.unary .not (.bool x)).run Try.prog w = .ok (.bool (!x)) w := fun _ _ => rfl
  have hI : ¬ (3000 : Int) < n := by omega
  go_enter Try.func6, Try.ntmps6
  have Q_ := own1 w (.cells #[.int .u8 c, .int .u8 sx, .int .u8 sy, .int .u8 wx, .int .u8 wy] 24)
  have B0 := Lib.hid (vian HN.out BB.out Q_)
  have P0 := Lib.hid (show Has (w.alloc (.cells #[.int .u8 c, .int .u8 sx, .int .u8 sy, .int .u8 wx, .int .u8 wy] 24)) w.heap.size #[.int .u8 c, .int .u8 sx, .int .u8 sy, .int .u8 wx, .int .u8 wy] by simpa using Has.new w #[.int .u8 c, .int .u8 sx, .int .u8 sy, .int .u8 wx, .int .u8 wy] 24)
  have LP := Lib.hid (show n_ ≤ w.heap.size + 0 from Nat.le_add_right_of_le (Nat.le_trans HN.out BB.out.size))
  simp only [Nat.add_zero] at LP
  clear Q_
  go_upto_region 1 with (fail)
  generalize (w.alloc (.cells #[.int .u8 c, .int .u8 sx, .int .u8 sy, .int .u8 wx, .int .u8 wy] 24)) = u0 at B0 P0 ⊢
  generalize w.heap.size = pb at P0 LP  ⊢
  go_wp2_with (fail)
  with_reducible refine (AW.out _).mono ?_
  rintro q_ u1 ⟨rfl, hb⟩
  have B1 := Lib.hid (vian HN.out B0.out hb)
  have P1 := Lib.hid (P0.out.below hb)
  clear hb B0 P0
  obtain ⟨hc0, hf0⟩ := P1.out.out
  go_wp2_with (fail)
  clear hc0 hf0
  with_reducible refine (filled_m a n cp F _ (HM0.out.at HN.out B1.out)).mono ?_
  rintro q_ u2 ⟨sv, rfl, hm, hb⟩
  have hb3 := vian HN.out B1.out hb
  have hm0 := (HM0.out.at HN.out B1.out).at (Nat.le_refl _) hb
  have P2 := Lib.hid (P1.out.below hb)
  have QF := Lib.hid (show ∀ w', Below u2.heap.size u2 w' → Below n_ W0 w' from fun w' h => vian HN.out hb3 h)
  have ZN := Lib.hid (show n_ ≤ u2.heap.size from Nat.le_trans HN.out hb3.size)
  obtain ⟨n3, V3, hn3, b3, m0, m1, z3⟩ : ∃ (n3 : Nat) (V3 : World), n3 ≤ V3.heap.size ∧ Below n3 V3 u2 ∧ MemB n3 V3 (.slice a n cp) F ∧ MemB n3 V3 sv (filledV F n) ∧ (∀ w', Below n3 V3 w' → Below n_ W0 w') := ⟨u2.heap.size, u2, Nat.le_refl _, Below.refl _ _, hm0, hm, QF.out⟩
  have HN := Lib.hid hn3
  have B2 := Lib.hid b3
  have HM0 := Lib.hid m0
  have HM1 := Lib.hid m1
  have ZF := Lib.hid z3
  clear hm hb hb3 hm0 hn3 b3 m0 m1 z3 QF ZN B1 P1
  obtain ⟨G, hG⟩ : ∃ G, G = filledV F n := ⟨_, rfl⟩
  rw [← hG] at HM1
  clear hG
  have kx := (show 0 ≤ (sx + bb) % 256 ∧ (sx + bb) % 256 < 256 by omega)
  have ky := (show 0 ≤ (sy + bb) % 256 ∧ (sy + bb) % 256 < 256 by omega)
  have A1 := Lib.hid (fun W h => back_c c ((sx + bb) % 256) sy wx wy c0 c1 kx.1 kx.2 sy0 sy1 wx0 wx1 wy0 wy1 sv G x y (by omega) (by omega) (by omega) (by omega) W h)
  have A2 := Lib.hid (fun W h => back_c c sx sy wx wy c0 c1 sx0 sx1 sy0 sy1 wx0 wx1 wy0 wy1 sv G (x + bb) y (by omega) (by omega) (by omega) (by omega) W h)
  have C1 := Lib.hid (fun W h => back_c c sx ((sy + bb) % 256) wx wy c0 c1 sx0 sx1 ky.1 ky.2 wx0 wx1 wy0 wy1 sv G x y (by omega) (by omega) (by omega) (by omega) W h)
  have C2 := Lib.hid (fun W h => back_c c sx sy wx wy c0 c1 sx0 sx1 sy0 sy1 wx0 wx1 wy0 wy1 sv G x (y + bb) (by omega) (by omega) (by omega) (by omega) W h)
  have D0 := Lib.hid (fun W h => back_c c sx sy wx wy c0 c1 sx0 sx1 sy0 sy1 wx0 wx1 wy0 wy1 sv G x y (by omega) (by omega) (by omega) (by omega) W h)
  have D1 := Lib.hid (fun W h => back_c c sx sy wx wy c0 c1 sx0 sx1 sy0 sy1 wx0 wx1 wy0 wy1 sv G (x + 256) y (by omega) (by omega) (by omega) (by omega) W h)
  have D2 := Lib.hid (fun W h => back_c c sx sy wx wy c0 c1 sx0 sx1 sy0 sy1 wx0 wx1 wy0 wy1 sv G x (y - 256) (by omega) (by omega) (by omega) (by omega) W h)
  have W1 := Lib.hid (fun W h => win_c c sx sy wx wy c0 c1 sx0 sx1 sy0 sy1 wx0 wx1 wy0 wy1 sv G (x + 256) y (by omega) (by omega) (by omega) (by omega) W h)
  have W2 := Lib.hid (fun W h => win_c c sx sy wx wy c0 c1 sx0 sx1 sy0 sy1 wx0 wx1 wy0 wy1 sv G x y (by omega) (by omega) (by omega) (by omega) W h)
  rw [back_x] at A1
  rw [back_y] at C1
  rw [back_x256] at D1
  rw [back_y256] at D2
  rw [win_x256] at W1
  obtain ⟨r1, hr1⟩ : ∃ q_, q_ = backV G c sx sy (x + bb) y := ⟨_, rfl⟩
  obtain ⟨r2, hr2⟩ : ∃ q_, q_ = backV G c sx sy x (y + bb) := ⟨_, rfl⟩
  obtain ⟨r3, hr3⟩ : ∃ q_, q_ = backV G c sx sy x y := ⟨_, rfl⟩
  obtain ⟨r4, hr4⟩ : ∃ q_, q_ = winV G c x y := ⟨_, rfl⟩
  rw [← hr1] at A1 A2
  rw [← hr2] at C1 C2
  rw [← hr3] at D0 D1 D2
  rw [← hr4] at W1 W2
  rw [show x + bb = IntKind.i64.wrap (x + IntKind.i64.wrap bb) by simp only [IntKind.wrap_i64]; omega] at A2
  rw [show y + bb = IntKind.i64.wrap (y + IntKind.i64.wrap bb) by simp only [IntKind.wrap_i64]; omega] at C2
  rw [show x + 256 = IntKind.i64.wrap (x + 256) by simp only [IntKind.wrap_i64]; omega] at D1 W1
  rw [show y - 256 = IntKind.i64.wrap (y - 256) by simp only [IntKind.wrap_i64]; omega] at D2
  clear hr1 hr2 hr3 hr4
  have Q_ := own1 u2 (.cells #[.int .u8 c, .int .u8 sx, .int .u8 sy, .int .u8 wx, .int .u8 wy] 26)
  have B3 := Lib.hid (vian HN.out B2.out Q_)
  have P3 := Lib.hid (P2.out.below Q_)
  have Q3 := Lib.hid (Has.new u2 #[.int .u8 c, .int .u8 sx, .int .u8 sy, .int .u8 wx, .int .u8 wy] 26)
  have LQ := Lib.hid (Nat.le_trans HN.out B2.out.size)
  have NPQ := Lib.hid (Nat.ne_of_lt P2.out.1)
  clear Q_
  obtain ⟨hc0, hf0⟩ := P2.out.out
  go_upto_region 5 with (fail)
  clear hc0 hf0
  generalize u2.alloc (.cells #[.int .u8 c, .int .u8 sx, .int .u8 sy, .int .u8 wx, .int .u8 wy] 26) = u3 at B3 P3 Q3 ⊢
  generalize u2.heap.size = qb at Q3 LQ NPQ ⊢
  clear B2 P2
  have B4 := Lib.hid B3.out.drew
  have P4 := Lib.hid P3.out.drew
  have Q4 := Lib.hid Q3.out.drew
  clear B3 P3 Q3
  refine wp_region_held_drew (S := (fun w' => ∀ o, w'.cell? ⟨qb, o, none⟩ = (#[.int .u8 c, .int .u8 sx, .int .u8 sy, .int .u8 wx, .int .u8 wy])[o]?)) (by kernel_rfl) (Q4.out.2.1) (fun hHeld => ?_)
  generalize World.drew _ = u4 at hHeld B4 P4 Q4 ⊢
  refine wpAnyH_take (i := 0) (oi := { dst := some 28, op := Go.Op.load 26 (Go.Operand.tmp 12), type := 26, pos := "law.go:54", after := #[], guard := none }) (v := ?v1) rfl (by kernel_rfl) (by kernel_rfl) (by kernel_rfl) (fun _ _ _ h => h) (Or.inl ⟨by rfl, ?y1⟩) (by assumption) ?z1
  case y1 => (intro w hSw; (try dsimp only at hSw); go_simp) <;> with_reducible rfl
  try simp only [Act.put, List.setIfInBounds_toArray, List.set_cons_zero, List.set_cons_succ]
  refine wpAnyH_take (i := 1) (oi := { dst := some 29, op := Go.Op.load 26 (Go.Operand.tmp 12), type := 26, pos := "law.go:54", after := #[{ on := 4, ground := Go.Ground.gcOnly Go.Departure.lateStores }], guard := none }) (v := ?v2) rfl (by kernel_rfl) (by kernel_rfl) (by kernel_rfl) (fun _ _ _ h => h) (Or.inl ⟨by rfl, ?y2⟩) (by assumption) ?z2
  case y2 => (intro w hSw; (try dsimp only at hSw); go_simp) <;> with_reducible rfl
  try simp only [Act.put, List.setIfInBounds_toArray, List.set_cons_zero, List.set_cons_succ]
  refine wpAnyH_ready (rs := [2, 3]) (by kernel_rfl) (by simp) ?_
  refine (AllReadyH.cons (o := { dst := some 13, op := Go.Op.alloc 26, type := 0, pos := "law.go:54", after := #[], guard := none }) rfl (fun K hK => ?_) (AllReadyH.cons (o := { dst := some 14, op := Go.Op.alloc 26, type := 0, pos := "law.go:54", after := #[], guard := none }) rfl (fun K hK => ?_) AllReadyH.nil))
  · skip
    go_simp
    have Q_ := own1 u4 (.cells #[.int .u8 0, .int .u8 0, .int .u8 0, .int .u8 0, .int .u8 0] 26)
    have B5 := Lib.hid (vian HN.out B4.out Q_)
    have P5 := Lib.hid (P4.out.below Q_)
    have Q5 := Lib.hid (Q4.out.below Q_)
    have A5 := Lib.hid (Has.new u4 #[.int .u8 0, .int .u8 0, .int .u8 0, .int .u8 0, .int .u8 0] 26)
    have LA := Lib.hid (Nat.le_trans HN.out B4.out.size)
    have NPA := Lib.hid (Nat.ne_of_lt P4.out.1)
    have NQA := Lib.hid (Nat.ne_of_lt Q4.out.1)
    clear Q_ B4 P4 Q4
    generalize u4.alloc (.cells #[.int .u8 0, .int .u8 0, .int .u8 0, .int .u8 0, .int .u8 0] 26) = u5 at B5 P5 Q5 A5 ⊢
    generalize u4.heap.size = ab at A5 LA NPA NQA ⊢
    refine hK.out _ _ ?s3 (fun hNew => ?r3)
    case s3 => exact (Q5.out.2.1)
    clear hK K hHeld
    have hHeld := hNew
    clear hNew
    refine wpAnyH_ready (rs := [3]) (by kernel_rfl) (by simp) ?_
    refine (AllReadyH.cons (o := { dst := some 14, op := Go.Op.alloc 26, type := 0, pos := "law.go:54", after := #[], guard := none }) rfl (fun K hK => ?_) AllReadyH.nil)
    · skip
      go_simp
      have Q_ := own1 u5 (.cells #[.int .u8 0, .int .u8 0, .int .u8 0, .int .u8 0, .int .u8 0] 26)
      have B6 := Lib.hid (vian HN.out B5.out Q_)
      have P6 := Lib.hid (P5.out.below Q_)
      have Q6 := Lib.hid (Q5.out.below Q_)
      have A6 := Lib.hid (A5.out.below Q_)
      have C6 := Lib.hid (Has.new u5 #[.int .u8 0, .int .u8 0, .int .u8 0, .int .u8 0, .int .u8 0] 26)
      have LC := Lib.hid (Nat.le_trans HN.out B5.out.size)
      have NPC := Lib.hid (Nat.ne_of_lt P5.out.1)
      have NQC := Lib.hid (Nat.ne_of_lt Q5.out.1)
      have NAC := Lib.hid (Nat.ne_of_lt A5.out.1)
      clear Q_ B5 P5 Q5 A5
      generalize u5.alloc (.cells #[.int .u8 0, .int .u8 0, .int .u8 0, .int .u8 0, .int .u8 0] 26) = u6 at B6 P6 Q6 A6 C6 ⊢
      generalize u5.heap.size = cb at C6 LC NPC NQC NAC ⊢
      refine hK.out _ _ ?s4 (fun hNew => ?r4)
      case s4 => exact (Q6.out.2.1)
      clear hK K hHeld
      have hHeld := hNew
      clear hNew
      refine wpAnyH_ready (rs := [4]) (by kernel_rfl) (by simp) ?_
      refine (AllReadyH.cons (o := { dst := none, op := Go.Op.store 26 (Go.Operand.tmp 13) (Go.Operand.tmp 28), type := 0, pos := "law.go:54", after := #[{ on := 2, ground := Go.Ground.data }, { on := 0, ground := Go.Ground.data }, { on := 0, ground := Go.Ground.phase }, { on := 1, ground := Go.Ground.textOnly Go.Departure.lateStores }, { on := 2, ground := Go.Ground.phase }, { on := 3, ground := Go.Ground.phase }], guard := none }) rfl (fun K hK => ?_) AllReadyH.nil)
      · skip
        refine wp_store_v A6.out rfl #[.int .u8 c, .int .u8 sx, .int .u8 sy, .int .u8 wx, .int .u8 wy] rfl (by simp [Value.oneCell']) _ _ rfl rfl rfl ?_
        intro u7 hP hk
        try simp only [Act.put]
        have A7 := Lib.hid hP
        have B7 := Lib.hid (hk.below HN.out LA.out B6.out)
        have P7 := Lib.hid (hk.has NPA.out P6.out)
        have Q7 := Lib.hid (hk.has NQA.out Q6.out)
        have C7 := Lib.hid (hk.has (Ne.symm NAC.out) C6.out)
        clear hP hk B6 P6 Q6 A6 C6
        refine hK.out _ _ ?s5 (fun hNew => ?r5)
        case s5 => exact (Q7.out.2.1)
        clear hK K hHeld
        have hHeld := hNew
        clear hNew
        refine wpAnyH_ready (rs := [5]) (by kernel_rfl) (by simp) ?_
        refine (AllReadyH.cons (o := { dst := none, op := Go.Op.store 26 (Go.Operand.tmp 14) (Go.Operand.tmp 29), type := 0, pos := "law.go:54", after := #[{ on := 3, ground := Go.Ground.data }, { on := 1, ground := Go.Ground.data }, { on := 4, ground := Go.Ground.chain }, { on := 0, ground := Go.Ground.phase }, { on := 1, ground := Go.Ground.phase }, { on := 2, ground := Go.Ground.phase }, { on := 3, ground := Go.Ground.phase }, { on := 4, ground := Go.Ground.phase }], guard := none }) rfl (fun K hK => ?_) AllReadyH.nil)
        · skip
          refine wp_store_v C7.out rfl #[.int .u8 c, .int .u8 sx, .int .u8 sy, .int .u8 wx, .int .u8 wy] rfl (by simp [Value.oneCell']) _ _ rfl rfl rfl ?_
          intro u8 hP hk
          try simp only [Act.put]
          have C8 := Lib.hid hP
          have B8 := Lib.hid (hk.below HN.out LC.out B7.out)
          have P8 := Lib.hid (hk.has NPC.out P7.out)
          have Q8 := Lib.hid (hk.has NQC.out Q7.out)
          have A8 := Lib.hid (hk.has NAC.out A7.out)
          clear hP hk B7 P7 Q7 A7 C7
          refine hK.out _ _ ?s6 (fun hNew => ?r6)
          case s6 => exact (Q8.out.2.1)
          clear hK K hHeld
          have hHeld := hNew
          clear hNew
          refine wpAnyH_done (by kernel_rfl) ?_ _
          clear hHeld
          obtain ⟨hc0, hf0⟩ := A8.out.out
          go_wp2_with (refine store_c A8.out rfl _ _ rfl 1 rfl _ _ rfl rfl #[.int .u8 c, .int .u8 ((sx + bb) % 256), .int .u8 sy, .int .u8 wx, .int .u8 wy] rfl ?_)
          intro u9 hP hk
          clear hc0 hf0
          have A9 := Lib.hid hP
          have B9 := Lib.hid (hk.below HN.out LA.out B8.out)
          have P9 := Lib.hid (hk.has NPA.out P8.out)
          have Q9 := Lib.hid (hk.has NQA.out Q8.out)
          have C9 := Lib.hid (hk.has (Ne.symm NAC.out) C8.out)
          clear hP hk B8 P8 Q8 A8 C8
          try simp only [Act.put]
          obtain ⟨hc0, hf0⟩ := C9.out.out
          go_wp2_with (refine store_c C9.out rfl _ _ rfl 2 rfl _ _ rfl rfl #[.int .u8 c, .int .u8 sx, .int .u8 ((sy + bb) % 256), .int .u8 wx, .int .u8 wy] rfl ?_)
          intro u10 hP hk
          clear hc0 hf0
          have C10 := Lib.hid hP
          have B10 := Lib.hid (hk.below HN.out LC.out B9.out)
          have P10 := Lib.hid (hk.has NPC.out P9.out)
          have Q10 := Lib.hid (hk.has NQC.out Q9.out)
          have A10 := Lib.hid (hk.has NAC.out A9.out)
          clear hP hk B9 P9 Q9 A9 C9
          try simp only [Act.put]
          go_upto_region 9 with (fail)
          have B11 := Lib.hid B10.out.drew
          have P11 := Lib.hid P10.out.drew
          have Q11 := Lib.hid Q10.out.drew
          have A11 := Lib.hid A10.out.drew
          have C11 := Lib.hid C10.out.drew
          clear B10 P10 Q10 A10 C10
          refine wp_region_held_drew (S := (fun w' => (∀ o, w'.cell? ⟨ab, o, none⟩ = (#[.int .u8 c, .int .u8 ((sx + bb) % 256), .int .u8 sy, .int .u8 wx, .int .u8 wy])[o]?) ∧ (∀ o, w'.cell? ⟨qb, o, none⟩ = (#[.int .u8 c, .int .u8 sx, .int .u8 sy, .int .u8 wx, .int .u8 wy])[o]?) ∧ (∀ o, w'.cell? ⟨cb, o, none⟩ = (#[.int .u8 c, .int .u8 sx, .int .u8 ((sy + bb) % 256), .int .u8 wx, .int .u8 wy])[o]?))) (by kernel_rfl) ⟨A11.out.2.1, Q11.out.2.1, C11.out.2.1⟩ (fun hHeld => ?_)
          generalize World.drew _ = u11 at hHeld B11 P11 Q11 A11 C11 ⊢
          refine wpAnyH_take (i := 0) (oi := { dst := some 44, op := Go.Op.load 26 (Go.Operand.tmp 13), type := 26, pos := "law.go:58", after := #[], guard := none }) (v := ?v7) rfl (by kernel_rfl) (by kernel_rfl) (by kernel_rfl) (fun _ _ _ h => h) (Or.inl ⟨by rfl, ?y7⟩) (by assumption) ?z7
          case y7 => (intro w hSw; (try dsimp only at hSw); go_simp) <;> with_reducible rfl
          try simp only [Act.put, List.setIfInBounds_toArray, List.set_cons_zero, List.set_cons_succ]
          refine wpAnyH_take (i := 1) (oi := { dst := some 45, op := Go.Op.move (Go.Operand.tmp 11), type := 22, pos := "law.go:58", after := #[], guard := none }) (v := ?v8) rfl (by kernel_rfl) (by kernel_rfl) (by kernel_rfl) (fun _ _ _ h => h) (Or.inl ⟨by rfl, ?y8⟩) (by assumption) ?z8
          case y8 => (intro w hSw; (try dsimp only at hSw); go_simp) <;> with_reducible rfl
          try simp only [Act.put, List.setIfInBounds_toArray, List.set_cons_zero, List.set_cons_succ]
          refine wpAnyH_take (i := 2) (oi := { dst := some 46, op := Go.Op.move (Go.Operand.tmp 15), type := 3, pos := "law.go:58", after := #[], guard := none }) (v := ?v9) rfl (by kernel_rfl) (by kernel_rfl) (by kernel_rfl) (fun _ _ _ h => h) (Or.inl ⟨by rfl, ?y9⟩) (by assumption) ?z9
          case y9 => (intro w hSw; (try dsimp only at hSw); go_simp) <;> with_reducible rfl
          try simp only [Act.put, List.setIfInBounds_toArray, List.set_cons_zero, List.set_cons_succ]
          refine wpAnyH_take (i := 3) (oi := { dst := some 47, op := Go.Op.move (Go.Operand.tmp 16), type := 3, pos := "law.go:58", after := #[], guard := none }) (v := ?v10) rfl (by kernel_rfl) (by kernel_rfl) (by kernel_rfl) (fun _ _ _ h => h) (Or.inl ⟨by rfl, ?y10⟩) (by assumption) ?z10
          case y10 => (intro w hSw; (try dsimp only at hSw); go_simp) <;> with_reducible rfl
          try simp only [Act.put, List.setIfInBounds_toArray, List.set_cons_zero, List.set_cons_succ]
          refine wpAnyH_take (i := 5) (oi := { dst := some 49, op := Go.Op.load 26 (Go.Operand.tmp 12), type := 26, pos := "law.go:58", after := #[], guard := none }) (v := ?v11) rfl (by kernel_rfl) (by kernel_rfl) (by kernel_rfl) (fun _ _ _ h => h) (Or.inl ⟨by rfl, ?y11⟩) (by assumption) ?z11
          case y11 => (intro w hSw; (try dsimp only at hSw); go_simp) <;> with_reducible rfl
          try simp only [Act.put, List.setIfInBounds_toArray, List.set_cons_zero, List.set_cons_succ]
          refine wpAnyH_take (i := 6) (oi := { dst := some 50, op := Go.Op.move (Go.Operand.tmp 11), type := 22, pos := "law.go:58", after := #[], guard := none }) (v := ?v12) rfl (by kernel_rfl) (by kernel_rfl) (by kernel_rfl) (fun _ _ _ h => h) (Or.inl ⟨by rfl, ?y12⟩) (by assumption) ?z12
          case y12 => (intro w hSw; (try dsimp only at hSw); go_simp) <;> with_reducible rfl
          try simp only [Act.put, List.setIfInBounds_toArray, List.set_cons_zero, List.set_cons_succ]
          refine wpAnyH_take (i := 7) (oi := { dst := some 51, op := Go.Op.move (Go.Operand.tmp 15), type := 3, pos := "law.go:58", after := #[], guard := none }) (v := ?v13) rfl (by kernel_rfl) (by kernel_rfl) (by kernel_rfl) (fun _ _ _ h => h) (Or.inl ⟨by rfl, ?y13⟩) (by assumption) ?z13
          case y13 => (intro w hSw; (try dsimp only at hSw); go_simp) <;> with_reducible rfl
          try simp only [Act.put, List.setIfInBounds_toArray, List.set_cons_zero, List.set_cons_succ]
          refine wpAnyH_take (i := 8) (oi := { dst := some 52, op := Go.Op.move (Go.Operand.tmp 2), type := 5, pos := "law.go:58", after := #[], guard := none }) (v := ?v14) rfl (by kernel_rfl) (by kernel_rfl) (by kernel_rfl) (fun _ _ _ h => h) (Or.inl ⟨by rfl, ?y14⟩) (by assumption) ?z14
          case y14 => (intro w hSw; (try dsimp only at hSw); go_simp) <;> with_reducible rfl
          try simp only [Act.put, List.setIfInBounds_toArray, List.set_cons_zero, List.set_cons_succ]
          refine wpAnyH_take (i := 9) (oi := { dst := some 53, op := Go.Op.convert 5 3 (Go.Operand.tmp 52), type := 3, pos := "law.go:58", after := #[{ on := 8, ground := Go.Ground.data }], guard := none }) (v := ?v15) rfl (by kernel_rfl) (by kernel_rfl) (by kernel_rfl) (fun _ _ _ h => h) (Or.inl ⟨by rfl, ?y15⟩) (by assumption) ?z15
          case y15 => (intro w hSw; (try dsimp only at hSw); go_simp) <;> with_reducible rfl
          try simp only [Act.put, List.setIfInBounds_toArray, List.set_cons_zero, List.set_cons_succ]
          refine wpAnyH_take (i := 10) (oi := { dst := some 54, op := Go.Op.binOp Go.BinOp.add 3 (Go.Operand.tmp 51) (Go.Operand.tmp 53) 3, type := 3, pos := "law.go:58", after := #[{ on := 7, ground := Go.Ground.data }, { on := 9, ground := Go.Ground.data }], guard := none }) (v := ?v16) rfl (by kernel_rfl) (by kernel_rfl) (by kernel_rfl) (fun _ _ _ h => h) (Or.inl ⟨by rfl, ?y16⟩) (by assumption) ?z16
          case y16 => (intro w hSw; (try dsimp only at hSw); go_simp) <;> with_reducible rfl
          try simp only [Act.put, List.setIfInBounds_toArray, List.set_cons_zero, List.set_cons_succ]
          refine wpAnyH_take (i := 11) (oi := { dst := some 55, op := Go.Op.move (Go.Operand.tmp 16), type := 3, pos := "law.go:58", after := #[], guard := none }) (v := ?v17) rfl (by kernel_rfl) (by kernel_rfl) (by kernel_rfl) (fun _ _ _ h => h) (Or.inl ⟨by rfl, ?y17⟩) (by assumption) ?z17
          case y17 => (intro w hSw; (try dsimp only at hSw); go_simp) <;> with_reducible rfl
          try simp only [Act.put, List.setIfInBounds_toArray, List.set_cons_zero, List.set_cons_succ]
          refine wpAnyH_ready (rs := [4]) (by kernel_rfl) (by simp) ?_
          refine (AllReadyH.cons (o := { dst := some 48, op := Go.Op.call { callee := Go.Callee.value (Go.Operand.func 17), args := #[Go.Operand.tmp 44, Go.Operand.tmp 45, Go.Operand.tmp 46, Go.Operand.tmp 47], argTypes := #[26, 22, 3, 3] }, type := 5, pos := "law.go:58", after := #[{ on := 0, ground := Go.Ground.data }, { on := 1, ground := Go.Ground.data }, { on := 2, ground := Go.Ground.data }, { on := 3, ground := Go.Ground.data }], guard := none }) rfl (fun K hK => ?_) AllReadyH.nil)
          · skip
            go_simp
            with_reducible refine (A1.out _ (HM1.out.at HN.out B11.out)).mono ?_
            rintro q_ u12 ⟨rfl, hb⟩
            have B12 := Lib.hid (vian HN.out B11.out hb)
            have P12 := Lib.hid (P11.out.below hb)
            have Q12 := Lib.hid (Q11.out.below hb)
            have A12 := Lib.hid (A11.out.below hb)
            have C12 := Lib.hid (C11.out.below hb)
            clear hb B11 P11 Q11 A11 C11
            refine hK.out _ _ ?s18 (fun hNew => ?r18)
            case s18 => exact ⟨A12.out.2.1, Q12.out.2.1, C12.out.2.1⟩
            clear hK K hHeld
            have hHeld := hNew
            clear hNew
            refine wpAnyH_ready (rs := [12]) (by kernel_rfl) (by simp) ?_
            refine (AllReadyH.cons (o := { dst := some 56, op := Go.Op.call { callee := Go.Callee.value (Go.Operand.func 17), args := #[Go.Operand.tmp 49, Go.Operand.tmp 50, Go.Operand.tmp 54, Go.Operand.tmp 55], argTypes := #[26, 22, 3, 3] }, type := 5, pos := "law.go:58", after := #[{ on := 5, ground := Go.Ground.data }, { on := 6, ground := Go.Ground.data }, { on := 10, ground := Go.Ground.data }, { on := 11, ground := Go.Ground.data }, { on := 4, ground := Go.Ground.chain }], guard := none }) rfl (fun K hK => ?_) AllReadyH.nil)
            · skip
              go_simp
              with_reducible refine (A2.out _ (HM1.out.at HN.out B12.out)).mono ?_
              rintro q_ u13 ⟨rfl, hb⟩
              have B13 := Lib.hid (vian HN.out B12.out hb)
              have P13 := Lib.hid (P12.out.below hb)
              have Q13 := Lib.hid (Q12.out.below hb)
              have A13 := Lib.hid (A12.out.below hb)
              have C13 := Lib.hid (C12.out.below hb)
              clear hb B12 P12 Q12 A12 C12
              refine hK.out _ _ ?s19 (fun hNew => ?r19)
              case s19 => exact ⟨A13.out.2.1, Q13.out.2.1, C13.out.2.1⟩
              clear hK K hHeld
              have hHeld := hNew
              clear hNew
              refine wpAnyH_take (i := 13) (oi := { dst := some 57, op := Go.Op.binOp Go.BinOp.eql 5 (Go.Operand.tmp 48) (Go.Operand.tmp 56) 5, type := 4, pos := "law.go:58", after := #[{ on := 4, ground := Go.Ground.data }, { on := 12, ground := Go.Ground.data }], guard := none }) (v := ?v20) rfl (by kernel_rfl) (by kernel_rfl) (by kernel_rfl) (fun _ _ _ h => h) (Or.inl ⟨by rfl, ?y20⟩) (by assumption) ?z20
              case y20 => (intro w hSw; (try dsimp only at hSw); go_simp) <;> with_reducible rfl
              try simp only [Act.put, List.setIfInBounds_toArray, List.set_cons_zero, List.set_cons_succ]
              refine wpAnyH_take (i := 14) (oi := { dst := some 58, op := Go.Op.move (Go.Operand.tmp 57), type := 4, pos := "law.go:58", after := #[{ on := 13, ground := Go.Ground.data }, { on := 12, ground := Go.Ground.chain }], guard := none }) (v := ?v21) rfl (by kernel_rfl) (by kernel_rfl) (by kernel_rfl) (fun _ _ _ h => h) (Or.inl ⟨by rfl, ?y21⟩) (by assumption) ?z21
              case y21 => (intro w hSw; (try dsimp only at hSw); go_simp) <;> with_reducible rfl
              try simp only [Act.put, List.setIfInBounds_toArray, List.set_cons_zero, List.set_cons_succ]
              refine wpAnyH_take (i := 15) (oi := { dst := some 59, op := Go.Op.load 26 (Go.Operand.tmp 14), type := 26, pos := "law.go:58", after := #[{ on := 14, ground := Go.Ground.guard }], guard := some (14, true) }) (v := ?v22) rfl (by kernel_rfl) (by kernel_rfl) (by kernel_rfl) (fun _ _ _ h => h) (Or.inl ⟨by rfl, ?y22⟩) (by assumption) ?z22
              case y22 => (intro w hSw; (try dsimp only at hSw); go_simp) <;> with_reducible rfl
              try simp only [Act.put, List.setIfInBounds_toArray, List.set_cons_zero, List.set_cons_succ]
              refine wpAnyH_take (i := 16) (oi := { dst := some 60, op := Go.Op.move (Go.Operand.tmp 11), type := 22, pos := "law.go:58", after := #[{ on := 14, ground := Go.Ground.guard }], guard := some (14, true) }) (v := ?v23) rfl (by kernel_rfl) (by kernel_rfl) (by kernel_rfl) (fun _ _ _ h => h) (Or.inl ⟨by rfl, ?y23⟩) (by assumption) ?z23
              case y23 => (intro w hSw; (try dsimp only at hSw); go_simp) <;> with_reducible rfl
              try simp only [Act.put, List.setIfInBounds_toArray, List.set_cons_zero, List.set_cons_succ]
              refine wpAnyH_take (i := 17) (oi := { dst := some 61, op := Go.Op.move (Go.Operand.tmp 15), type := 3, pos := "law.go:58", after := #[{ on := 14, ground := Go.Ground.guard }], guard := some (14, true) }) (v := ?v24) rfl (by kernel_rfl) (by kernel_rfl) (by kernel_rfl) (fun _ _ _ h => h) (Or.inl ⟨by rfl, ?y24⟩) (by assumption) ?z24
              case y24 => (intro w hSw; (try dsimp only at hSw); go_simp) <;> with_reducible rfl
              try simp only [Act.put, List.setIfInBounds_toArray, List.set_cons_zero, List.set_cons_succ]
              refine wpAnyH_take (i := 18) (oi := { dst := some 62, op := Go.Op.move (Go.Operand.tmp 16), type := 3, pos := "law.go:58", after := #[{ on := 14, ground := Go.Ground.guard }], guard := some (14, true) }) (v := ?v25) rfl (by kernel_rfl) (by kernel_rfl) (by kernel_rfl) (fun _ _ _ h => h) (Or.inl ⟨by rfl, ?y25⟩) (by assumption) ?z25
              case y25 => (intro w hSw; (try dsimp only at hSw); go_simp) <;> with_reducible rfl
              try simp only [Act.put, List.setIfInBounds_toArray, List.set_cons_zero, List.set_cons_succ]
              refine wpAnyH_take (i := 20) (oi := { dst := some 64, op := Go.Op.load 26 (Go.Operand.tmp 12), type := 26, pos := "law.go:58", after := #[{ on := 14, ground := Go.Ground.guard }], guard := some (14, true) }) (v := ?v26) rfl (by kernel_rfl) (by kernel_rfl) (by kernel_rfl) (fun _ _ _ h => h) (Or.inl ⟨by rfl, ?y26⟩) (by assumption) ?z26
              case y26 => (intro w hSw; (try dsimp only at hSw); go_simp) <;> with_reducible rfl
              try simp only [Act.put, List.setIfInBounds_toArray, List.set_cons_zero, List.set_cons_succ]
              refine wpAnyH_take (i := 21) (oi := { dst := some 65, op := Go.Op.move (Go.Operand.tmp 11), type := 22, pos := "law.go:58", after := #[{ on := 14, ground := Go.Ground.guard }], guard := some (14, true) }) (v := ?v27) rfl (by kernel_rfl) (by kernel_rfl) (by kernel_rfl) (fun _ _ _ h => h) (Or.inl ⟨by rfl, ?y27⟩) (by assumption) ?z27
              case y27 => (intro w hSw; (try dsimp only at hSw); go_simp) <;> with_reducible rfl
              try simp only [Act.put, List.setIfInBounds_toArray, List.set_cons_zero, List.set_cons_succ]
              refine wpAnyH_take (i := 22) (oi := { dst := some 66, op := Go.Op.move (Go.Operand.tmp 15), type := 3, pos := "law.go:58", after := #[{ on := 14, ground := Go.Ground.guard }], guard := some (14, true) }) (v := ?v28) rfl (by kernel_rfl) (by kernel_rfl) (by kernel_rfl) (fun _ _ _ h => h) (Or.inl ⟨by rfl, ?y28⟩) (by assumption) ?z28
              case y28 => (intro w hSw; (try dsimp only at hSw); go_simp) <;> with_reducible rfl
              try simp only [Act.put, List.setIfInBounds_toArray, List.set_cons_zero, List.set_cons_succ]
              refine wpAnyH_take (i := 23) (oi := { dst := some 67, op := Go.Op.move (Go.Operand.tmp 16), type := 3, pos := "law.go:58", after := #[{ on := 14, ground := Go.Ground.guard }], guard := some (14, true) }) (v := ?v29) rfl (by kernel_rfl) (by kernel_rfl) (by kernel_rfl) (fun _ _ _ h => h) (Or.inl ⟨by rfl, ?y29⟩) (by assumption) ?z29
              case y29 => (intro w hSw; (try dsimp only at hSw); go_simp) <;> with_reducible rfl
              try simp only [Act.put, List.setIfInBounds_toArray, List.set_cons_zero, List.set_cons_succ]
              refine wpAnyH_take (i := 24) (oi := { dst := some 68, op := Go.Op.move (Go.Operand.tmp 2), type := 5, pos := "law.go:58", after := #[{ on := 14, ground := Go.Ground.guard }], guard := some (14, true) }) (v := ?v30) rfl (by kernel_rfl) (by kernel_rfl) (by kernel_rfl) (fun _ _ _ h => h) (Or.inl ⟨by rfl, ?y30⟩) (by assumption) ?z30
              case y30 => (intro w hSw; (try dsimp only at hSw); go_simp) <;> with_reducible rfl
              try simp only [Act.put, List.setIfInBounds_toArray, List.set_cons_zero, List.set_cons_succ]
              refine wpAnyH_take (i := 25) (oi := { dst := some 69, op := Go.Op.convert 5 3 (Go.Operand.tmp 68), type := 3, pos := "law.go:58", after := #[{ on := 24, ground := Go.Ground.data }, { on := 14, ground := Go.Ground.guard }], guard := some (14, true) }) (v := ?v31) rfl (by kernel_rfl) (by kernel_rfl) (by kernel_rfl) (fun _ _ _ h => h) (Or.inl ⟨by rfl, ?y31⟩) (by assumption) ?z31
              case y31 => (intro w hSw; (try dsimp only at hSw); go_simp) <;> with_reducible rfl
              try simp only [Act.put, List.setIfInBounds_toArray, List.set_cons_zero, List.set_cons_succ]
              refine wpAnyH_take (i := 26) (oi := { dst := some 70, op := Go.Op.binOp Go.BinOp.add 3 (Go.Operand.tmp 67) (Go.Operand.tmp 69) 3, type := 3, pos := "law.go:58", after := #[{ on := 23, ground := Go.Ground.data }, { on := 25, ground := Go.Ground.data }, { on := 14, ground := Go.Ground.guard }], guard := some (14, true) }) (v := ?v32) rfl (by kernel_rfl) (by kernel_rfl) (by kernel_rfl) (fun _ _ _ h => h) (Or.inl ⟨by rfl, ?y32⟩) (by assumption) ?z32
              case y32 => (intro w hSw; (try dsimp only at hSw); go_simp) <;> with_reducible rfl
              try simp only [Act.put, List.setIfInBounds_toArray, List.set_cons_zero, List.set_cons_succ]
              refine wpAnyH_ready (rs := [19]) (by kernel_rfl) (by simp) ?_
              refine (AllReadyH.cons (o := { dst := some 63, op := Go.Op.call { callee := Go.Callee.value (Go.Operand.func 17), args := #[Go.Operand.tmp 59, Go.Operand.tmp 60, Go.Operand.tmp 61, Go.Operand.tmp 62], argTypes := #[26, 22, 3, 3] }, type := 5, pos := "law.go:58", after := #[{ on := 15, ground := Go.Ground.data }, { on := 16, ground := Go.Ground.data }, { on := 17, ground := Go.Ground.data }, { on := 18, ground := Go.Ground.data }, { on := 14, ground := Go.Ground.chain }, { on := 14, ground := Go.Ground.guard }], guard := some (14, true) }) rfl (fun K hK => ?_) AllReadyH.nil)
              · skip
                go_simp
                with_reducible refine (C1.out _ (HM1.out.at HN.out B13.out)).mono ?_
                rintro q_ u14 ⟨rfl, hb⟩
                have B14 := Lib.hid (vian HN.out B13.out hb)
                have P14 := Lib.hid (P13.out.below hb)
                have Q14 := Lib.hid (Q13.out.below hb)
                have A14 := Lib.hid (A13.out.below hb)
                have C14 := Lib.hid (C13.out.below hb)
                clear hb B13 P13 Q13 A13 C13
                refine hK.out _ _ ?s33 (fun hNew => ?r33)
                case s33 => exact ⟨A14.out.2.1, Q14.out.2.1, C14.out.2.1⟩
                clear hK K hHeld
                have hHeld := hNew
                clear hNew
                refine wpAnyH_ready (rs := [27]) (by kernel_rfl) (by simp) ?_
                refine (AllReadyH.cons (o := { dst := some 71, op := Go.Op.call { callee := Go.Callee.value (Go.Operand.func 17), args := #[Go.Operand.tmp 64, Go.Operand.tmp 65, Go.Operand.tmp 66, Go.Operand.tmp 70], argTypes := #[26, 22, 3, 3] }, type := 5, pos := "law.go:58", after := #[{ on := 20, ground := Go.Ground.data }, { on := 21, ground := Go.Ground.data }, { on := 22, ground := Go.Ground.data }, { on := 26, ground := Go.Ground.data }, { on := 19, ground := Go.Ground.chain }, { on := 14, ground := Go.Ground.guard }], guard := some (14, true) }) rfl (fun K hK => ?_) AllReadyH.nil)
                · skip
                  go_simp
                  with_reducible refine (C2.out _ (HM1.out.at HN.out B14.out)).mono ?_
                  rintro q_ u15 ⟨rfl, hb⟩
                  have B15 := Lib.hid (vian HN.out B14.out hb)
                  have P15 := Lib.hid (P14.out.below hb)
                  have Q15 := Lib.hid (Q14.out.below hb)
                  have A15 := Lib.hid (A14.out.below hb)
                  have C15 := Lib.hid (C14.out.below hb)
                  clear hb B14 P14 Q14 A14 C14
                  refine hK.out _ _ ?s34 (fun hNew => ?r34)
                  case s34 => exact ⟨A15.out.2.1, Q15.out.2.1, C15.out.2.1⟩
                  clear hK K hHeld
                  have hHeld := hNew
                  clear hNew
                  refine wpAnyH_take (i := 28) (oi := { dst := some 72, op := Go.Op.binOp Go.BinOp.eql 5 (Go.Operand.tmp 63) (Go.Operand.tmp 71) 5, type := 4, pos := "law.go:58", after := #[{ on := 19, ground := Go.Ground.data }, { on := 27, ground := Go.Ground.data }, { on := 14, ground := Go.Ground.guard }], guard := some (14, true) }) (v := ?v35) rfl (by kernel_rfl) (by kernel_rfl) (by kernel_rfl) (fun _ _ _ h => h) (Or.inl ⟨by rfl, ?y35⟩) (by assumption) ?z35
                  case y35 => (intro w hSw; (try dsimp only at hSw); go_simp) <;> with_reducible rfl
                  try simp only [Act.put, List.setIfInBounds_toArray, List.set_cons_zero, List.set_cons_succ]
                  refine wpAnyH_take (i := 29) (oi := { dst := some 73, op := Go.Op.pick (Go.Operand.tmp 58) (Go.Operand.tmp 72) (Go.Operand.const (Go.Value.bool false)), type := 4, pos := "law.go:58", after := #[{ on := 14, ground := Go.Ground.data }, { on := 28, ground := Go.Ground.data }], guard := none }) (v := ?v36) rfl (by kernel_rfl) (by kernel_rfl) (by kernel_rfl) (fun _ _ _ h => h) (Or.inl ⟨by rfl, ?y36⟩) (by assumption) ?z36
                  case y36 => (intro w hSw; (try dsimp only at hSw); go_simp) <;> with_reducible rfl
                  try simp only [Act.put, List.setIfInBounds_toArray, List.set_cons_zero, List.set_cons_succ]
                  refine wpAnyH_take (i := 30) (oi := { dst := some 74, op := Go.Op.move (Go.Operand.tmp 73), type := 4, pos := "law.go:58", after := #[{ on := 29, ground := Go.Ground.data }, { on := 27, ground := Go.Ground.chain }], guard := none }) (v := ?v37) rfl (by kernel_rfl) (by kernel_rfl) (by kernel_rfl) (fun _ _ _ h => h) (Or.inl ⟨by rfl, ?y37⟩) (by assumption) ?z37
                  case y37 => (intro w hSw; (try dsimp only at hSw); go_simp) <;> with_reducible rfl
                  try simp only [Act.put, List.setIfInBounds_toArray, List.set_cons_zero, List.set_cons_succ]
                  refine wpAnyH_take (i := 31) (oi := { dst := some 75, op := Go.Op.load 26 (Go.Operand.tmp 12), type := 26, pos := "law.go:58", after := #[{ on := 30, ground := Go.Ground.guard }], guard := some (30, true) }) (v := ?v38) rfl (by kernel_rfl) (by kernel_rfl) (by kernel_rfl) (fun _ _ _ h => h) (Or.inl ⟨by rfl, ?y38⟩) (by assumption) ?z38
                  case y38 => (intro w hSw; (try dsimp only at hSw); go_simp) <;> with_reducible rfl
                  try simp only [Act.put, List.setIfInBounds_toArray, List.set_cons_zero, List.set_cons_succ]
                  refine wpAnyH_take (i := 32) (oi := { dst := some 76, op := Go.Op.move (Go.Operand.tmp 11), type := 22, pos := "law.go:58", after := #[{ on := 30, ground := Go.Ground.guard }], guard := some (30, true) }) (v := ?v39) rfl (by kernel_rfl) (by kernel_rfl) (by kernel_rfl) (fun _ _ _ h => h) (Or.inl ⟨by rfl, ?y39⟩) (by assumption) ?z39
                  case y39 => (intro w hSw; (try dsimp only at hSw); go_simp) <;> with_reducible rfl
                  try simp only [Act.put, List.setIfInBounds_toArray, List.set_cons_zero, List.set_cons_succ]
                  refine wpAnyH_take (i := 33) (oi := { dst := some 77, op := Go.Op.move (Go.Operand.tmp 15), type := 3, pos := "law.go:58", after := #[{ on := 30, ground := Go.Ground.guard }], guard := some (30, true) }) (v := ?v40) rfl (by kernel_rfl) (by kernel_rfl) (by kernel_rfl) (fun _ _ _ h => h) (Or.inl ⟨by rfl, ?y40⟩) (by assumption) ?z40
                  case y40 => (intro w hSw; (try dsimp only at hSw); go_simp) <;> with_reducible rfl
                  try simp only [Act.put, List.setIfInBounds_toArray, List.set_cons_zero, List.set_cons_succ]
                  refine wpAnyH_take (i := 34) (oi := { dst := some 78, op := Go.Op.binOp Go.BinOp.add 3 (Go.Operand.tmp 77) (Go.Operand.const (Go.Value.int Go.IntKind.i64 256)) 3, type := 3, pos := "law.go:58", after := #[{ on := 33, ground := Go.Ground.data }, { on := 30, ground := Go.Ground.guard }], guard := some (30, true) }) (v := ?v41) rfl (by kernel_rfl) (by kernel_rfl) (by kernel_rfl) (fun _ _ _ h => h) (Or.inl ⟨by rfl, ?y41⟩) (by assumption) ?z41
                  case y41 => (intro w hSw; (try dsimp only at hSw); go_simp) <;> with_reducible rfl
                  try simp only [Act.put, List.setIfInBounds_toArray, List.set_cons_zero, List.set_cons_succ]
                  refine wpAnyH_take (i := 35) (oi := { dst := some 79, op := Go.Op.move (Go.Operand.tmp 16), type := 3, pos := "law.go:58", after := #[{ on := 30, ground := Go.Ground.guard }], guard := some (30, true) }) (v := ?v42) rfl (by kernel_rfl) (by kernel_rfl) (by kernel_rfl) (fun _ _ _ h => h) (Or.inl ⟨by rfl, ?y42⟩) (by assumption) ?z42
                  case y42 => (intro w hSw; (try dsimp only at hSw); go_simp) <;> with_reducible rfl
                  try simp only [Act.put, List.setIfInBounds_toArray, List.set_cons_zero, List.set_cons_succ]
                  refine wpAnyH_take (i := 37) (oi := { dst := some 81, op := Go.Op.load 26 (Go.Operand.tmp 12), type := 26, pos := "law.go:58", after := #[{ on := 30, ground := Go.Ground.guard }], guard := some (30, true) }) (v := ?v43) rfl (by kernel_rfl) (by kernel_rfl) (by kernel_rfl) (fun _ _ _ h => h) (Or.inl ⟨by rfl, ?y43⟩) (by assumption) ?z43
                  case y43 => (intro w hSw; (try dsimp only at hSw); go_simp) <;> with_reducible rfl
                  try simp only [Act.put, List.setIfInBounds_toArray, List.set_cons_zero, List.set_cons_succ]
                  refine wpAnyH_take (i := 38) (oi := { dst := some 82, op := Go.Op.move (Go.Operand.tmp 11), type := 22, pos := "law.go:58", after := #[{ on := 30, ground := Go.Ground.guard }], guard := some (30, true) }) (v := ?v44) rfl (by kernel_rfl) (by kernel_rfl) (by kernel_rfl) (fun _ _ _ h => h) (Or.inl ⟨by rfl, ?y44⟩) (by assumption) ?z44
                  case y44 => (intro w hSw; (try dsimp only at hSw); go_simp) <;> with_reducible rfl
                  try simp only [Act.put, List.setIfInBounds_toArray, List.set_cons_zero, List.set_cons_succ]
                  refine wpAnyH_take (i := 39) (oi := { dst := some 83, op := Go.Op.move (Go.Operand.tmp 15), type := 3, pos := "law.go:58", after := #[{ on := 30, ground := Go.Ground.guard }], guard := some (30, true) }) (v := ?v45) rfl (by kernel_rfl) (by kernel_rfl) (by kernel_rfl) (fun _ _ _ h => h) (Or.inl ⟨by rfl, ?y45⟩) (by assumption) ?z45
                  case y45 => (intro w hSw; (try dsimp only at hSw); go_simp) <;> with_reducible rfl
                  try simp only [Act.put, List.setIfInBounds_toArray, List.set_cons_zero, List.set_cons_succ]
                  refine wpAnyH_take (i := 40) (oi := { dst := some 84, op := Go.Op.move (Go.Operand.tmp 16), type := 3, pos := "law.go:58", after := #[{ on := 30, ground := Go.Ground.guard }], guard := some (30, true) }) (v := ?v46) rfl (by kernel_rfl) (by kernel_rfl) (by kernel_rfl) (fun _ _ _ h => h) (Or.inl ⟨by rfl, ?y46⟩) (by assumption) ?z46
                  case y46 => (intro w hSw; (try dsimp only at hSw); go_simp) <;> with_reducible rfl
                  try simp only [Act.put, List.setIfInBounds_toArray, List.set_cons_zero, List.set_cons_succ]
                  refine wpAnyH_ready (rs := [36]) (by kernel_rfl) (by simp) ?_
                  refine (AllReadyH.cons (o := { dst := some 80, op := Go.Op.call { callee := Go.Callee.value (Go.Operand.func 17), args := #[Go.Operand.tmp 75, Go.Operand.tmp 76, Go.Operand.tmp 78, Go.Operand.tmp 79], argTypes := #[26, 22, 3, 3] }, type := 5, pos := "law.go:58", after := #[{ on := 31, ground := Go.Ground.data }, { on := 32, ground := Go.Ground.data }, { on := 34, ground := Go.Ground.data }, { on := 35, ground := Go.Ground.data }, { on := 30, ground := Go.Ground.chain }, { on := 30, ground := Go.Ground.guard }], guard := some (30, true) }) rfl (fun K hK => ?_) AllReadyH.nil)
                  · skip
                    go_simp
                    with_reducible refine (D1.out _ (HM1.out.at HN.out B15.out)).mono ?_
                    rintro q_ u16 ⟨rfl, hb⟩
                    have B16 := Lib.hid (vian HN.out B15.out hb)
                    have P16 := Lib.hid (P15.out.below hb)
                    have Q16 := Lib.hid (Q15.out.below hb)
                    have A16 := Lib.hid (A15.out.below hb)
                    have C16 := Lib.hid (C15.out.below hb)
                    clear hb B15 P15 Q15 A15 C15
                    refine hK.out _ _ ?s47 (fun hNew => ?r47)
                    case s47 => exact ⟨A16.out.2.1, Q16.out.2.1, C16.out.2.1⟩
                    clear hK K hHeld
                    have hHeld := hNew
                    clear hNew
                    refine wpAnyH_ready (rs := [41]) (by kernel_rfl) (by simp) ?_
                    refine (AllReadyH.cons (o := { dst := some 85, op := Go.Op.call { callee := Go.Callee.value (Go.Operand.func 17), args := #[Go.Operand.tmp 81, Go.Operand.tmp 82, Go.Operand.tmp 83, Go.Operand.tmp 84], argTypes := #[26, 22, 3, 3] }, type := 5, pos := "law.go:58", after := #[{ on := 37, ground := Go.Ground.data }, { on := 38, ground := Go.Ground.data }, { on := 39, ground := Go.Ground.data }, { on := 40, ground := Go.Ground.data }, { on := 36, ground := Go.Ground.chain }, { on := 30, ground := Go.Ground.guard }], guard := some (30, true) }) rfl (fun K hK => ?_) AllReadyH.nil)
                    · skip
                      go_simp
                      with_reducible refine (D0.out _ (HM1.out.at HN.out B16.out)).mono ?_
                      rintro q_ u17 ⟨rfl, hb⟩
                      have B17 := Lib.hid (vian HN.out B16.out hb)
                      have P17 := Lib.hid (P16.out.below hb)
                      have Q17 := Lib.hid (Q16.out.below hb)
                      have A17 := Lib.hid (A16.out.below hb)
                      have C17 := Lib.hid (C16.out.below hb)
                      clear hb B16 P16 Q16 A16 C16
                      refine hK.out _ _ ?s48 (fun hNew => ?r48)
                      case s48 => exact ⟨A17.out.2.1, Q17.out.2.1, C17.out.2.1⟩
                      clear hK K hHeld
                      have hHeld := hNew
                      clear hNew
                      refine wpAnyH_take (i := 42) (oi := { dst := some 86, op := Go.Op.binOp Go.BinOp.eql 5 (Go.Operand.tmp 80) (Go.Operand.tmp 85) 5, type := 4, pos := "law.go:58", after := #[{ on := 36, ground := Go.Ground.data }, { on := 41, ground := Go.Ground.data }, { on := 30, ground := Go.Ground.guard }], guard := some (30, true) }) (v := ?v49) rfl (by kernel_rfl) (by kernel_rfl) (by kernel_rfl) (fun _ _ _ h => h) (Or.inl ⟨by rfl, ?y49⟩) (by assumption) ?z49
                      case y49 => (intro w hSw; (try dsimp only at hSw); go_simp) <;> with_reducible rfl
                      try simp only [Act.put, List.setIfInBounds_toArray, List.set_cons_zero, List.set_cons_succ]
                      refine wpAnyH_take (i := 43) (oi := { dst := some 87, op := Go.Op.pick (Go.Operand.tmp 74) (Go.Operand.tmp 86) (Go.Operand.const (Go.Value.bool false)), type := 4, pos := "law.go:58", after := #[{ on := 30, ground := Go.Ground.data }, { on := 42, ground := Go.Ground.data }], guard := none }) (v := ?v50) rfl (by kernel_rfl) (by kernel_rfl) (by kernel_rfl) (fun _ _ _ h => h) (Or.inl ⟨by rfl, ?y50⟩) (by assumption) ?z50
                      case y50 => (intro w hSw; (try dsimp only at hSw); go_simp) <;> with_reducible rfl
                      try simp only [Act.put, List.setIfInBounds_toArray, List.set_cons_zero, List.set_cons_succ]
                      refine wpAnyH_take (i := 44) (oi := { dst := some 88, op := Go.Op.move (Go.Operand.tmp 87), type := 4, pos := "law.go:58", after := #[{ on := 43, ground := Go.Ground.data }, { on := 41, ground := Go.Ground.chain }], guard := none }) (v := ?v51) rfl (by kernel_rfl) (by kernel_rfl) (by kernel_rfl) (fun _ _ _ h => h) (Or.inl ⟨by rfl, ?y51⟩) (by assumption) ?z51
                      case y51 => (intro w hSw; (try dsimp only at hSw); go_simp) <;> with_reducible rfl
                      try simp only [Act.put, List.setIfInBounds_toArray, List.set_cons_zero, List.set_cons_succ]
                      refine wpAnyH_take (i := 45) (oi := { dst := some 89, op := Go.Op.load 26 (Go.Operand.tmp 12), type := 26, pos := "law.go:58", after := #[{ on := 44, ground := Go.Ground.guard }], guard := some (44, true) }) (v := ?v52) rfl (by kernel_rfl) (by kernel_rfl) (by kernel_rfl) (fun _ _ _ h => h) (Or.inl ⟨by rfl, ?y52⟩) (by assumption) ?z52
                      case y52 => (intro w hSw; (try dsimp only at hSw); go_simp) <;> with_reducible rfl
                      try simp only [Act.put, List.setIfInBounds_toArray, List.set_cons_zero, List.set_cons_succ]
                      refine wpAnyH_take (i := 46) (oi := { dst := some 90, op := Go.Op.move (Go.Operand.tmp 11), type := 22, pos := "law.go:58", after := #[{ on := 44, ground := Go.Ground.guard }], guard := some (44, true) }) (v := ?v53) rfl (by kernel_rfl) (by kernel_rfl) (by kernel_rfl) (fun _ _ _ h => h) (Or.inl ⟨by rfl, ?y53⟩) (by assumption) ?z53
                      case y53 => (intro w hSw; (try dsimp only at hSw); go_simp) <;> with_reducible rfl
                      try simp only [Act.put, List.setIfInBounds_toArray, List.set_cons_zero, List.set_cons_succ]
                      refine wpAnyH_take (i := 47) (oi := { dst := some 91, op := Go.Op.move (Go.Operand.tmp 15), type := 3, pos := "law.go:58", after := #[{ on := 44, ground := Go.Ground.guard }], guard := some (44, true) }) (v := ?v54) rfl (by kernel_rfl) (by kernel_rfl) (by kernel_rfl) (fun _ _ _ h => h) (Or.inl ⟨by rfl, ?y54⟩) (by assumption) ?z54
                      case y54 => (intro w hSw; (try dsimp only at hSw); go_simp) <;> with_reducible rfl
                      try simp only [Act.put, List.setIfInBounds_toArray, List.set_cons_zero, List.set_cons_succ]
                      refine wpAnyH_take (i := 48) (oi := { dst := some 92, op := Go.Op.move (Go.Operand.tmp 16), type := 3, pos := "law.go:58", after := #[{ on := 44, ground := Go.Ground.guard }], guard := some (44, true) }) (v := ?v55) rfl (by kernel_rfl) (by kernel_rfl) (by kernel_rfl) (fun _ _ _ h => h) (Or.inl ⟨by rfl, ?y55⟩) (by assumption) ?z55
                      case y55 => (intro w hSw; (try dsimp only at hSw); go_simp) <;> with_reducible rfl
                      try simp only [Act.put, List.setIfInBounds_toArray, List.set_cons_zero, List.set_cons_succ]
                      refine wpAnyH_take (i := 49) (oi := { dst := some 93, op := Go.Op.binOp Go.BinOp.sub 3 (Go.Operand.tmp 92) (Go.Operand.const (Go.Value.int Go.IntKind.i64 256)) 3, type := 3, pos := "law.go:58", after := #[{ on := 48, ground := Go.Ground.data }, { on := 44, ground := Go.Ground.guard }], guard := some (44, true) }) (v := ?v56) rfl (by kernel_rfl) (by kernel_rfl) (by kernel_rfl) (fun _ _ _ h => h) (Or.inl ⟨by rfl, ?y56⟩) (by assumption) ?z56
                      case y56 => (intro w hSw; (try dsimp only at hSw); go_simp) <;> with_reducible rfl
                      try simp only [Act.put, List.setIfInBounds_toArray, List.set_cons_zero, List.set_cons_succ]
                      refine wpAnyH_take (i := 51) (oi := { dst := some 95, op := Go.Op.load 26 (Go.Operand.tmp 12), type := 26, pos := "law.go:58", after := #[{ on := 44, ground := Go.Ground.guard }], guard := some (44, true) }) (v := ?v57) rfl (by kernel_rfl) (by kernel_rfl) (by kernel_rfl) (fun _ _ _ h => h) (Or.inl ⟨by rfl, ?y57⟩) (by assumption) ?z57
                      case y57 => (intro w hSw; (try dsimp only at hSw); go_simp) <;> with_reducible rfl
                      try simp only [Act.put, List.setIfInBounds_toArray, List.set_cons_zero, List.set_cons_succ]
                      refine wpAnyH_take (i := 52) (oi := { dst := some 96, op := Go.Op.move (Go.Operand.tmp 11), type := 22, pos := "law.go:58", after := #[{ on := 44, ground := Go.Ground.guard }], guard := some (44, true) }) (v := ?v58) rfl (by kernel_rfl) (by kernel_rfl) (by kernel_rfl) (fun _ _ _ h => h) (Or.inl ⟨by rfl, ?y58⟩) (by assumption) ?z58
                      case y58 => (intro w hSw; (try dsimp only at hSw); go_simp) <;> with_reducible rfl
                      try simp only [Act.put, List.setIfInBounds_toArray, List.set_cons_zero, List.set_cons_succ]
                      refine wpAnyH_take (i := 53) (oi := { dst := some 97, op := Go.Op.move (Go.Operand.tmp 15), type := 3, pos := "law.go:58", after := #[{ on := 44, ground := Go.Ground.guard }], guard := some (44, true) }) (v := ?v59) rfl (by kernel_rfl) (by kernel_rfl) (by kernel_rfl) (fun _ _ _ h => h) (Or.inl ⟨by rfl, ?y59⟩) (by assumption) ?z59
                      case y59 => (intro w hSw; (try dsimp only at hSw); go_simp) <;> with_reducible rfl
                      try simp only [Act.put, List.setIfInBounds_toArray, List.set_cons_zero, List.set_cons_succ]
                      refine wpAnyH_take (i := 54) (oi := { dst := some 98, op := Go.Op.move (Go.Operand.tmp 16), type := 3, pos := "law.go:58", after := #[{ on := 44, ground := Go.Ground.guard }], guard := some (44, true) }) (v := ?v60) rfl (by kernel_rfl) (by kernel_rfl) (by kernel_rfl) (fun _ _ _ h => h) (Or.inl ⟨by rfl, ?y60⟩) (by assumption) ?z60
                      case y60 => (intro w hSw; (try dsimp only at hSw); go_simp) <;> with_reducible rfl
                      try simp only [Act.put, List.setIfInBounds_toArray, List.set_cons_zero, List.set_cons_succ]
                      refine wpAnyH_ready (rs := [50]) (by kernel_rfl) (by simp) ?_
                      refine (AllReadyH.cons (o := { dst := some 94, op := Go.Op.call { callee := Go.Callee.value (Go.Operand.func 17), args := #[Go.Operand.tmp 89, Go.Operand.tmp 90, Go.Operand.tmp 91, Go.Operand.tmp 93], argTypes := #[26, 22, 3, 3] }, type := 5, pos := "law.go:58", after := #[{ on := 45, ground := Go.Ground.data }, { on := 46, ground := Go.Ground.data }, { on := 47, ground := Go.Ground.data }, { on := 49, ground := Go.Ground.data }, { on := 44, ground := Go.Ground.chain }, { on := 44, ground := Go.Ground.guard }], guard := some (44, true) }) rfl (fun K hK => ?_) AllReadyH.nil)
                      · skip
                        go_simp
                        with_reducible refine (D2.out _ (HM1.out.at HN.out B17.out)).mono ?_
                        rintro q_ u18 ⟨rfl, hb⟩
                        have B18 := Lib.hid (vian HN.out B17.out hb)
                        have P18 := Lib.hid (P17.out.below hb)
                        have Q18 := Lib.hid (Q17.out.below hb)
                        have A18 := Lib.hid (A17.out.below hb)
                        have C18 := Lib.hid (C17.out.below hb)
                        clear hb B17 P17 Q17 A17 C17
                        refine hK.out _ _ ?s61 (fun hNew => ?r61)
                        case s61 => exact ⟨A18.out.2.1, Q18.out.2.1, C18.out.2.1⟩
                        clear hK K hHeld
                        have hHeld := hNew
                        clear hNew
                        refine wpAnyH_ready (rs := [55]) (by kernel_rfl) (by simp) ?_
                        refine (AllReadyH.cons (o := { dst := some 99, op := Go.Op.call { callee := Go.Callee.value (Go.Operand.func 17), args := #[Go.Operand.tmp 95, Go.Operand.tmp 96, Go.Operand.tmp 97, Go.Operand.tmp 98], argTypes := #[26, 22, 3, 3] }, type := 5, pos := "law.go:58", after := #[{ on := 51, ground := Go.Ground.data }, { on := 52, ground := Go.Ground.data }, { on := 53, ground := Go.Ground.data }, { on := 54, ground := Go.Ground.data }, { on := 50, ground := Go.Ground.chain }, { on := 44, ground := Go.Ground.guard }], guard := some (44, true) }) rfl (fun K hK => ?_) AllReadyH.nil)
                        · skip
                          go_simp
                          with_reducible refine (D0.out _ (HM1.out.at HN.out B18.out)).mono ?_
                          rintro q_ u19 ⟨rfl, hb⟩
                          have B19 := Lib.hid (vian HN.out B18.out hb)
                          have P19 := Lib.hid (P18.out.below hb)
                          have Q19 := Lib.hid (Q18.out.below hb)
                          have A19 := Lib.hid (A18.out.below hb)
                          have C19 := Lib.hid (C18.out.below hb)
                          clear hb B18 P18 Q18 A18 C18
                          refine hK.out _ _ ?s62 (fun hNew => ?r62)
                          case s62 => exact ⟨A19.out.2.1, Q19.out.2.1, C19.out.2.1⟩
                          clear hK K hHeld
                          have hHeld := hNew
                          clear hNew
                          refine wpAnyH_take (i := 56) (oi := { dst := some 100, op := Go.Op.binOp Go.BinOp.eql 5 (Go.Operand.tmp 94) (Go.Operand.tmp 99) 5, type := 4, pos := "law.go:58", after := #[{ on := 50, ground := Go.Ground.data }, { on := 55, ground := Go.Ground.data }, { on := 44, ground := Go.Ground.guard }], guard := some (44, true) }) (v := ?v63) rfl (by kernel_rfl) (by kernel_rfl) (by kernel_rfl) (fun _ _ _ h => h) (Or.inl ⟨by rfl, ?y63⟩) (by assumption) ?z63
                          case y63 => (intro w hSw; (try dsimp only at hSw); go_simp) <;> with_reducible rfl
                          try simp only [Act.put, List.setIfInBounds_toArray, List.set_cons_zero, List.set_cons_succ]
                          refine wpAnyH_take (i := 57) (oi := { dst := some 101, op := Go.Op.pick (Go.Operand.tmp 88) (Go.Operand.tmp 100) (Go.Operand.const (Go.Value.bool false)), type := 4, pos := "law.go:58", after := #[{ on := 44, ground := Go.Ground.data }, { on := 56, ground := Go.Ground.data }], guard := none }) (v := ?v64) rfl (by kernel_rfl) (by kernel_rfl) (by kernel_rfl) (fun _ _ _ h => h) (Or.inl ⟨by rfl, ?y64⟩) (by assumption) ?z64
                          case y64 => (intro w hSw; (try dsimp only at hSw); go_simp) <;> with_reducible rfl
                          try simp only [Act.put, List.setIfInBounds_toArray, List.set_cons_zero, List.set_cons_succ]
                          refine wpAnyH_take (i := 58) (oi := { dst := some 102, op := Go.Op.move (Go.Operand.tmp 101), type := 4, pos := "law.go:58", after := #[{ on := 57, ground := Go.Ground.data }, { on := 55, ground := Go.Ground.chain }], guard := none }) (v := ?v65) rfl (by kernel_rfl) (by kernel_rfl) (by kernel_rfl) (fun _ _ _ h => h) (Or.inl ⟨by rfl, ?y65⟩) (by assumption) ?z65
                          case y65 => (intro w hSw; (try dsimp only at hSw); go_simp) <;> with_reducible rfl
                          try simp only [Act.put, List.setIfInBounds_toArray, List.set_cons_zero, List.set_cons_succ]
                          refine wpAnyH_take (i := 59) (oi := { dst := some 103, op := Go.Op.load 26 (Go.Operand.tmp 12), type := 26, pos := "law.go:58", after := #[{ on := 58, ground := Go.Ground.guard }], guard := some (58, true) }) (v := ?v66) rfl (by kernel_rfl) (by kernel_rfl) (by kernel_rfl) (fun _ _ _ h => h) (Or.inl ⟨by rfl, ?y66⟩) (by assumption) ?z66
                          case y66 => (intro w hSw; (try dsimp only at hSw); go_simp) <;> with_reducible rfl
                          try simp only [Act.put, List.setIfInBounds_toArray, List.set_cons_zero, List.set_cons_succ]
                          refine wpAnyH_take (i := 60) (oi := { dst := some 104, op := Go.Op.move (Go.Operand.tmp 11), type := 22, pos := "law.go:58", after := #[{ on := 58, ground := Go.Ground.guard }], guard := some (58, true) }) (v := ?v67) rfl (by kernel_rfl) (by kernel_rfl) (by kernel_rfl) (fun _ _ _ h => h) (Or.inl ⟨by rfl, ?y67⟩) (by assumption) ?z67
                          case y67 => (intro w hSw; (try dsimp only at hSw); go_simp) <;> with_reducible rfl
                          try simp only [Act.put, List.setIfInBounds_toArray, List.set_cons_zero, List.set_cons_succ]
                          refine wpAnyH_take (i := 61) (oi := { dst := some 105, op := Go.Op.move (Go.Operand.tmp 15), type := 3, pos := "law.go:58", after := #[{ on := 58, ground := Go.Ground.guard }], guard := some (58, true) }) (v := ?v68) rfl (by kernel_rfl) (by kernel_rfl) (by kernel_rfl) (fun _ _ _ h => h) (Or.inl ⟨by rfl, ?y68⟩) (by assumption) ?z68
                          case y68 => (intro w hSw; (try dsimp only at hSw); go_simp) <;> with_reducible rfl
                          try simp only [Act.put, List.setIfInBounds_toArray, List.set_cons_zero, List.set_cons_succ]
                          refine wpAnyH_take (i := 62) (oi := { dst := some 106, op := Go.Op.binOp Go.BinOp.add 3 (Go.Operand.tmp 105) (Go.Operand.const (Go.Value.int Go.IntKind.i64 256)) 3, type := 3, pos := "law.go:58", after := #[{ on := 61, ground := Go.Ground.data }, { on := 58, ground := Go.Ground.guard }], guard := some (58, true) }) (v := ?v69) rfl (by kernel_rfl) (by kernel_rfl) (by kernel_rfl) (fun _ _ _ h => h) (Or.inl ⟨by rfl, ?y69⟩) (by assumption) ?z69
                          case y69 => (intro w hSw; (try dsimp only at hSw); go_simp) <;> with_reducible rfl
                          try simp only [Act.put, List.setIfInBounds_toArray, List.set_cons_zero, List.set_cons_succ]
                          refine wpAnyH_take (i := 63) (oi := { dst := some 107, op := Go.Op.move (Go.Operand.tmp 16), type := 3, pos := "law.go:58", after := #[{ on := 58, ground := Go.Ground.guard }], guard := some (58, true) }) (v := ?v70) rfl (by kernel_rfl) (by kernel_rfl) (by kernel_rfl) (fun _ _ _ h => h) (Or.inl ⟨by rfl, ?y70⟩) (by assumption) ?z70
                          case y70 => (intro w hSw; (try dsimp only at hSw); go_simp) <;> with_reducible rfl
                          try simp only [Act.put, List.setIfInBounds_toArray, List.set_cons_zero, List.set_cons_succ]
                          refine wpAnyH_take (i := 65) (oi := { dst := some 109, op := Go.Op.load 26 (Go.Operand.tmp 12), type := 26, pos := "law.go:58", after := #[{ on := 58, ground := Go.Ground.guard }], guard := some (58, true) }) (v := ?v71) rfl (by kernel_rfl) (by kernel_rfl) (by kernel_rfl) (fun _ _ _ h => h) (Or.inl ⟨by rfl, ?y71⟩) (by assumption) ?z71
                          case y71 => (intro w hSw; (try dsimp only at hSw); go_simp) <;> with_reducible rfl
                          try simp only [Act.put, List.setIfInBounds_toArray, List.set_cons_zero, List.set_cons_succ]
                          refine wpAnyH_take (i := 66) (oi := { dst := some 110, op := Go.Op.move (Go.Operand.tmp 11), type := 22, pos := "law.go:58", after := #[{ on := 58, ground := Go.Ground.guard }], guard := some (58, true) }) (v := ?v72) rfl (by kernel_rfl) (by kernel_rfl) (by kernel_rfl) (fun _ _ _ h => h) (Or.inl ⟨by rfl, ?y72⟩) (by assumption) ?z72
                          case y72 => (intro w hSw; (try dsimp only at hSw); go_simp) <;> with_reducible rfl
                          try simp only [Act.put, List.setIfInBounds_toArray, List.set_cons_zero, List.set_cons_succ]
                          refine wpAnyH_take (i := 67) (oi := { dst := some 111, op := Go.Op.move (Go.Operand.tmp 15), type := 3, pos := "law.go:58", after := #[{ on := 58, ground := Go.Ground.guard }], guard := some (58, true) }) (v := ?v73) rfl (by kernel_rfl) (by kernel_rfl) (by kernel_rfl) (fun _ _ _ h => h) (Or.inl ⟨by rfl, ?y73⟩) (by assumption) ?z73
                          case y73 => (intro w hSw; (try dsimp only at hSw); go_simp) <;> with_reducible rfl
                          try simp only [Act.put, List.setIfInBounds_toArray, List.set_cons_zero, List.set_cons_succ]
                          refine wpAnyH_take (i := 68) (oi := { dst := some 112, op := Go.Op.move (Go.Operand.tmp 16), type := 3, pos := "law.go:58", after := #[{ on := 58, ground := Go.Ground.guard }], guard := some (58, true) }) (v := ?v74) rfl (by kernel_rfl) (by kernel_rfl) (by kernel_rfl) (fun _ _ _ h => h) (Or.inl ⟨by rfl, ?y74⟩) (by assumption) ?z74
                          case y74 => (intro w hSw; (try dsimp only at hSw); go_simp) <;> with_reducible rfl
                          try simp only [Act.put, List.setIfInBounds_toArray, List.set_cons_zero, List.set_cons_succ]
                          refine wpAnyH_ready (rs := [64]) (by kernel_rfl) (by simp) ?_
                          refine (AllReadyH.cons (o := { dst := some 108, op := Go.Op.call { callee := Go.Callee.value (Go.Operand.func 19), args := #[Go.Operand.tmp 103, Go.Operand.tmp 104, Go.Operand.tmp 106, Go.Operand.tmp 107], argTypes := #[26, 22, 3, 3] }, type := 5, pos := "law.go:58", after := #[{ on := 59, ground := Go.Ground.data }, { on := 60, ground := Go.Ground.data }, { on := 62, ground := Go.Ground.data }, { on := 63, ground := Go.Ground.data }, { on := 58, ground := Go.Ground.chain }, { on := 58, ground := Go.Ground.guard }], guard := some (58, true) }) rfl (fun K hK => ?_) AllReadyH.nil)
                          · skip
                            go_simp
                            with_reducible refine (W1.out _ (HM1.out.at HN.out B19.out)).mono ?_
                            rintro q_ u20 ⟨rfl, hb⟩
                            have B20 := Lib.hid (vian HN.out B19.out hb)
                            have P20 := Lib.hid (P19.out.below hb)
                            have Q20 := Lib.hid (Q19.out.below hb)
                            have A20 := Lib.hid (A19.out.below hb)
                            have C20 := Lib.hid (C19.out.below hb)
                            clear hb B19 P19 Q19 A19 C19
                            refine hK.out _ _ ?s75 (fun hNew => ?r75)
                            case s75 => exact ⟨A20.out.2.1, Q20.out.2.1, C20.out.2.1⟩
                            clear hK K hHeld
                            have hHeld := hNew
                            clear hNew
                            refine wpAnyH_ready (rs := [69]) (by kernel_rfl) (by simp) ?_
                            refine (AllReadyH.cons (o := { dst := some 113, op := Go.Op.call { callee := Go.Callee.value (Go.Operand.func 19), args := #[Go.Operand.tmp 109, Go.Operand.tmp 110, Go.Operand.tmp 111, Go.Operand.tmp 112], argTypes := #[26, 22, 3, 3] }, type := 5, pos := "law.go:58", after := #[{ on := 65, ground := Go.Ground.data }, { on := 66, ground := Go.Ground.data }, { on := 67, ground := Go.Ground.data }, { on := 68, ground := Go.Ground.data }, { on := 64, ground := Go.Ground.chain }, { on := 58, ground := Go.Ground.guard }], guard := some (58, true) }) rfl (fun K hK => ?_) AllReadyH.nil)
                            · skip
                              go_simp
                              with_reducible refine (W2.out _ (HM1.out.at HN.out B20.out)).mono ?_
                              rintro q_ u21 ⟨rfl, hb⟩
                              have B21 := Lib.hid (vian HN.out B20.out hb)
                              have P21 := Lib.hid (P20.out.below hb)
                              have Q21 := Lib.hid (Q20.out.below hb)
                              have A21 := Lib.hid (A20.out.below hb)
                              have C21 := Lib.hid (C20.out.below hb)
                              clear hb B20 P20 Q20 A20 C20
                              refine hK.out _ _ ?s76 (fun hNew => ?r76)
                              case s76 => exact ⟨A21.out.2.1, Q21.out.2.1, C21.out.2.1⟩
                              clear hK K hHeld
                              have hHeld := hNew
                              clear hNew
                              refine wpAnyH_take (i := 70) (oi := { dst := some 114, op := Go.Op.binOp Go.BinOp.eql 5 (Go.Operand.tmp 108) (Go.Operand.tmp 113) 5, type := 4, pos := "law.go:58", after := #[{ on := 64, ground := Go.Ground.data }, { on := 69, ground := Go.Ground.data }, { on := 58, ground := Go.Ground.guard }], guard := some (58, true) }) (v := ?v77) rfl (by kernel_rfl) (by kernel_rfl) (by kernel_rfl) (fun _ _ _ h => h) (Or.inl ⟨by rfl, ?y77⟩) (by assumption) ?z77
                              case y77 => (intro w hSw; (try dsimp only at hSw); go_simp) <;> with_reducible rfl
                              try simp only [Act.put, List.setIfInBounds_toArray, List.set_cons_zero, List.set_cons_succ]
                              refine wpAnyH_take (i := 71) (oi := { dst := some 115, op := Go.Op.pick (Go.Operand.tmp 102) (Go.Operand.tmp 114) (Go.Operand.const (Go.Value.bool false)), type := 4, pos := "law.go:58", after := #[{ on := 58, ground := Go.Ground.data }, { on := 70, ground := Go.Ground.data }], guard := none }) (v := ?v78) rfl (by kernel_rfl) (by kernel_rfl) (by kernel_rfl) (fun _ _ _ h => h) (Or.inl ⟨by rfl, ?y78⟩) (by assumption) ?z78
                              case y78 => (intro w hSw; (try dsimp only at hSw); go_simp) <;> with_reducible rfl
                              try simp only [Act.put, List.setIfInBounds_toArray, List.set_cons_zero, List.set_cons_succ]
                              refine wpAnyH_take (i := 72) (oi := { dst := some 10, op := Go.Op.assign (Go.Operand.tmp 115), type := 4, pos := "law.go:58", after := #[{ on := 71, ground := Go.Ground.data }, { on := 69, ground := Go.Ground.chain }, { on := 0, ground := Go.Ground.phase }, { on := 1, ground := Go.Ground.phase }, { on := 2, ground := Go.Ground.phase }, { on := 3, ground := Go.Ground.phase }, { on := 4, ground := Go.Ground.phase }, { on := 5, ground := Go.Ground.phase }, { on := 6, ground := Go.Ground.phase }, { on := 7, ground := Go.Ground.phase }, { on := 8, ground := Go.Ground.phase }, { on := 9, ground := Go.Ground.phase }, { on := 10, ground := Go.Ground.phase }, { on := 11, ground := Go.Ground.phase }, { on := 12, ground := Go.Ground.phase }, { on := 13, ground := Go.Ground.phase }, { on := 14, ground := Go.Ground.phase }, { on := 15, ground := Go.Ground.phase }, { on := 16, ground := Go.Ground.phase }, { on := 17, ground := Go.Ground.phase }, { on := 18, ground := Go.Ground.phase }, { on := 19, ground := Go.Ground.phase }, { on := 20, ground := Go.Ground.phase }, { on := 21, ground := Go.Ground.phase }, { on := 22, ground := Go.Ground.phase }, { on := 23, ground := Go.Ground.phase }, { on := 24, ground := Go.Ground.phase }, { on := 25, ground := Go.Ground.phase }, { on := 26, ground := Go.Ground.phase }, { on := 27, ground := Go.Ground.phase }, { on := 28, ground := Go.Ground.phase }, { on := 29, ground := Go.Ground.phase }, { on := 30, ground := Go.Ground.phase }, { on := 31, ground := Go.Ground.phase }, { on := 32, ground := Go.Ground.phase }, { on := 33, ground := Go.Ground.phase }, { on := 34, ground := Go.Ground.phase }, { on := 35, ground := Go.Ground.phase }, { on := 36, ground := Go.Ground.phase }, { on := 37, ground := Go.Ground.phase }, { on := 38, ground := Go.Ground.phase }, { on := 39, ground := Go.Ground.phase }, { on := 40, ground := Go.Ground.phase }, { on := 41, ground := Go.Ground.phase }, { on := 42, ground := Go.Ground.phase }, { on := 43, ground := Go.Ground.phase }, { on := 44, ground := Go.Ground.phase }, { on := 45, ground := Go.Ground.phase }, { on := 46, ground := Go.Ground.phase }, { on := 47, ground := Go.Ground.phase }, { on := 48, ground := Go.Ground.phase }, { on := 49, ground := Go.Ground.phase }, { on := 50, ground := Go.Ground.phase }, { on := 51, ground := Go.Ground.phase }, { on := 52, ground := Go.Ground.phase }, { on := 53, ground := Go.Ground.phase }, { on := 54, ground := Go.Ground.phase }, { on := 55, ground := Go.Ground.phase }, { on := 56, ground := Go.Ground.phase }, { on := 57, ground := Go.Ground.phase }, { on := 58, ground := Go.Ground.phase }, { on := 59, ground := Go.Ground.phase }, { on := 60, ground := Go.Ground.phase }, { on := 61, ground := Go.Ground.phase }, { on := 62, ground := Go.Ground.phase }, { on := 63, ground := Go.Ground.phase }, { on := 64, ground := Go.Ground.phase }, { on := 65, ground := Go.Ground.phase }, { on := 66, ground := Go.Ground.phase }, { on := 67, ground := Go.Ground.phase }, { on := 68, ground := Go.Ground.phase }, { on := 69, ground := Go.Ground.phase }, { on := 70, ground := Go.Ground.phase }, { on := 71, ground := Go.Ground.phase }], guard := none }) (v := ?v79) rfl (by kernel_rfl) (by kernel_rfl) (by kernel_rfl) (fun _ _ _ h => h) (Or.inl ⟨by rfl, ?y79⟩) (by assumption) ?z79
                              case y79 => (intro w hSw; (try dsimp only at hSw); go_simp) <;> with_reducible rfl
                              try simp only [Act.put, List.setIfInBounds_toArray, List.set_cons_zero, List.set_cons_succ]
                              refine wpAnyH_done (by kernel_rfl) ?_ _
                              clear hHeld
                              go_wp2_with (fail)
                              all_goals exact bodyPost_ret (v := .bool true) (by simp [results, Try.results6, go_sem]) rfl ⟨rfl, ZF.out _ B21.out⟩
  · skip
    go_simp
    have Q_ := own1 u4 (.cells #[.int .u8 0, .int .u8 0, .int .u8 0, .int .u8 0, .int .u8 0] 26)
    have B5 := Lib.hid (vian HN.out B4.out Q_)
    have P5 := Lib.hid (P4.out.below Q_)
    have Q5 := Lib.hid (Q4.out.below Q_)
    have C5 := Lib.hid (Has.new u4 #[.int .u8 0, .int .u8 0, .int .u8 0, .int .u8 0, .int .u8 0] 26)
    have LC := Lib.hid (Nat.le_trans HN.out B4.out.size)
    have NPC := Lib.hid (Nat.ne_of_lt P4.out.1)
    have NQC := Lib.hid (Nat.ne_of_lt Q4.out.1)
    clear Q_ B4 P4 Q4
    generalize u4.alloc (.cells #[.int .u8 0, .int .u8 0, .int .u8 0, .int .u8 0, .int .u8 0] 26) = u5 at B5 P5 Q5 C5 ⊢
    generalize u4.heap.size = cb at C5 LC NPC NQC ⊢
    refine hK.out _ _ ?s80 (fun hNew => ?r80)
    case s80 => exact (Q5.out.2.1)
    clear hK K hHeld
    have hHeld := hNew
    clear hNew
    refine wpAnyH_ready (rs := [2]) (by kernel_rfl) (by simp) ?_
    refine (AllReadyH.cons (o := { dst := some 13, op := Go.Op.alloc 26, type := 0, pos := "law.go:54", after := #[], guard := none }) rfl (fun K hK => ?_) AllReadyH.nil)
    · skip
      go_simp
      have Q_ := own1 u5 (.cells #[.int .u8 0, .int .u8 0, .int .u8 0, .int .u8 0, .int .u8 0] 26)
      have B6 := Lib.hid (vian HN.out B5.out Q_)
      have P6 := Lib.hid (P5.out.below Q_)
      have Q6 := Lib.hid (Q5.out.below Q_)
      have C6 := Lib.hid (C5.out.below Q_)
      have A6 := Lib.hid (Has.new u5 #[.int .u8 0, .int .u8 0, .int .u8 0, .int .u8 0, .int .u8 0] 26)
      have LA := Lib.hid (Nat.le_trans HN.out B5.out.size)
      have NPA := Lib.hid (Nat.ne_of_lt P5.out.1)
      have NQA := Lib.hid (Nat.ne_of_lt Q5.out.1)
      have NCA := Lib.hid (Nat.ne_of_lt C5.out.1)
      clear Q_ B5 P5 Q5 C5
      generalize u5.alloc (.cells #[.int .u8 0, .int .u8 0, .int .u8 0, .int .u8 0, .int .u8 0] 26) = u6 at B6 P6 Q6 C6 A6 ⊢
      generalize u5.heap.size = ab at A6 LA NPA NQA NCA ⊢
      refine hK.out _ _ ?s81 (fun hNew => ?r81)
      case s81 => exact (Q6.out.2.1)
      clear hK K hHeld
      have hHeld := hNew
      clear hNew
      refine wpAnyH_ready (rs := [4]) (by kernel_rfl) (by simp) ?_
      refine (AllReadyH.cons (o := { dst := none, op := Go.Op.store 26 (Go.Operand.tmp 13) (Go.Operand.tmp 28), type := 0, pos := "law.go:54", after := #[{ on := 2, ground := Go.Ground.data }, { on := 0, ground := Go.Ground.data }, { on := 0, ground := Go.Ground.phase }, { on := 1, ground := Go.Ground.textOnly Go.Departure.lateStores }, { on := 2, ground := Go.Ground.phase }, { on := 3, ground := Go.Ground.phase }], guard := none }) rfl (fun K hK => ?_) AllReadyH.nil)
      · skip
        refine wp_store_v A6.out rfl #[.int .u8 c, .int .u8 sx, .int .u8 sy, .int .u8 wx, .int .u8 wy] rfl (by simp [Value.oneCell']) _ _ rfl rfl rfl ?_
        intro u7 hP hk
        try simp only [Act.put]
        have A7 := Lib.hid hP
        have B7 := Lib.hid (hk.below HN.out LA.out B6.out)
        have P7 := Lib.hid (hk.has NPA.out P6.out)
        have Q7 := Lib.hid (hk.has NQA.out Q6.out)
        have C7 := Lib.hid (hk.has NCA.out C6.out)
        clear hP hk B6 P6 Q6 C6 A6
        refine hK.out _ _ ?s82 (fun hNew => ?r82)
        case s82 => exact (Q7.out.2.1)
        clear hK K hHeld
        have hHeld := hNew
        clear hNew
        refine wpAnyH_ready (rs := [5]) (by kernel_rfl) (by simp) ?_
        refine (AllReadyH.cons (o := { dst := none, op := Go.Op.store 26 (Go.Operand.tmp 14) (Go.Operand.tmp 29), type := 0, pos := "law.go:54", after := #[{ on := 3, ground := Go.Ground.data }, { on := 1, ground := Go.Ground.data }, { on := 4, ground := Go.Ground.chain }, { on := 0, ground := Go.Ground.phase }, { on := 1, ground := Go.Ground.phase }, { on := 2, ground := Go.Ground.phase }, { on := 3, ground := Go.Ground.phase }, { on := 4, ground := Go.Ground.phase }], guard := none }) rfl (fun K hK => ?_) AllReadyH.nil)
        · skip
          refine wp_store_v C7.out rfl #[.int .u8 c, .int .u8 sx, .int .u8 sy, .int .u8 wx, .int .u8 wy] rfl (by simp [Value.oneCell']) _ _ rfl rfl rfl ?_
          intro u8 hP hk
          try simp only [Act.put]
          have C8 := Lib.hid hP
          have B8 := Lib.hid (hk.below HN.out LC.out B7.out)
          have P8 := Lib.hid (hk.has NPC.out P7.out)
          have Q8 := Lib.hid (hk.has NQC.out Q7.out)
          have A8 := Lib.hid (hk.has (Ne.symm NCA.out) A7.out)
          clear hP hk B7 P7 Q7 C7 A7
          refine hK.out _ _ ?s83 (fun hNew => ?r83)
          case s83 => exact (Q8.out.2.1)
          clear hK K hHeld
          have hHeld := hNew
          clear hNew
          refine wpAnyH_done (by kernel_rfl) ?_ _
          clear hHeld
          obtain ⟨hc0, hf0⟩ := A8.out.out
          go_wp2_with (refine store_c A8.out rfl _ _ rfl 1 rfl _ _ rfl rfl #[.int .u8 c, .int .u8 ((sx + bb) % 256), .int .u8 sy, .int .u8 wx, .int .u8 wy] rfl ?_)
          intro u9 hP hk
          clear hc0 hf0
          have A9 := Lib.hid hP
          have B9 := Lib.hid (hk.below HN.out LA.out B8.out)
          have P9 := Lib.hid (hk.has NPA.out P8.out)
          have Q9 := Lib.hid (hk.has NQA.out Q8.out)
          have C9 := Lib.hid (hk.has NCA.out C8.out)
          clear hP hk B8 P8 Q8 C8 A8
          try simp only [Act.put]
          obtain ⟨hc0, hf0⟩ := C9.out.out
          go_wp2_with (refine store_c C9.out rfl _ _ rfl 2 rfl _ _ rfl rfl #[.int .u8 c, .int .u8 sx, .int .u8 ((sy + bb) % 256), .int .u8 wx, .int .u8 wy] rfl ?_)
          intro u10 hP hk
          clear hc0 hf0
          have C10 := Lib.hid hP
          have B10 := Lib.hid (hk.below HN.out LC.out B9.out)
          have P10 := Lib.hid (hk.has NPC.out P9.out)
          have Q10 := Lib.hid (hk.has NQC.out Q9.out)
          have A10 := Lib.hid (hk.has (Ne.symm NCA.out) A9.out)
          clear hP hk B9 P9 Q9 C9 A9
          try simp only [Act.put]
          go_upto_region 9 with (fail)
          have B11 := Lib.hid B10.out.drew
          have P11 := Lib.hid P10.out.drew
          have Q11 := Lib.hid Q10.out.drew
          have C11 := Lib.hid C10.out.drew
          have A11 := Lib.hid A10.out.drew
          clear B10 P10 Q10 C10 A10
          refine wp_region_held_drew (S := (fun w' => (∀ o, w'.cell? ⟨ab, o, none⟩ = (#[.int .u8 c, .int .u8 ((sx + bb) % 256), .int .u8 sy, .int .u8 wx, .int .u8 wy])[o]?) ∧ (∀ o, w'.cell? ⟨qb, o, none⟩ = (#[.int .u8 c, .int .u8 sx, .int .u8 sy, .int .u8 wx, .int .u8 wy])[o]?) ∧ (∀ o, w'.cell? ⟨cb, o, none⟩ = (#[.int .u8 c, .int .u8 sx, .int .u8 ((sy + bb) % 256), .int .u8 wx, .int .u8 wy])[o]?))) (by kernel_rfl) ⟨A11.out.2.1, Q11.out.2.1, C11.out.2.1⟩ (fun hHeld => ?_)
          generalize World.drew _ = u11 at hHeld B11 P11 Q11 C11 A11 ⊢
          refine wpAnyH_take (i := 0) (oi := { dst := some 44, op := Go.Op.load 26 (Go.Operand.tmp 13), type := 26, pos := "law.go:58", after := #[], guard := none }) (v := ?v84) rfl (by kernel_rfl) (by kernel_rfl) (by kernel_rfl) (fun _ _ _ h => h) (Or.inl ⟨by rfl, ?y84⟩) (by assumption) ?z84
          case y84 => (intro w hSw; (try dsimp only at hSw); go_simp) <;> with_reducible rfl
          try simp only [Act.put, List.setIfInBounds_toArray, List.set_cons_zero, List.set_cons_succ]
          refine wpAnyH_take (i := 1) (oi := { dst := some 45, op := Go.Op.move (Go.Operand.tmp 11), type := 22, pos := "law.go:58", after := #[], guard := none }) (v := ?v85) rfl (by kernel_rfl) (by kernel_rfl) (by kernel_rfl) (fun _ _ _ h => h) (Or.inl ⟨by rfl, ?y85⟩) (by assumption) ?z85
          case y85 => (intro w hSw; (try dsimp only at hSw); go_simp) <;> with_reducible rfl
          try simp only [Act.put, List.setIfInBounds_toArray, List.set_cons_zero, List.set_cons_succ]
          refine wpAnyH_take (i := 2) (oi := { dst := some 46, op := Go.Op.move (Go.Operand.tmp 15), type := 3, pos := "law.go:58", after := #[], guard := none }) (v := ?v86) rfl (by kernel_rfl) (by kernel_rfl) (by kernel_rfl) (fun _ _ _ h => h) (Or.inl ⟨by rfl, ?y86⟩) (by assumption) ?z86
          case y86 => (intro w hSw; (try dsimp only at hSw); go_simp) <;> with_reducible rfl
          try simp only [Act.put, List.setIfInBounds_toArray, List.set_cons_zero, List.set_cons_succ]
          refine wpAnyH_take (i := 3) (oi := { dst := some 47, op := Go.Op.move (Go.Operand.tmp 16), type := 3, pos := "law.go:58", after := #[], guard := none }) (v := ?v87) rfl (by kernel_rfl) (by kernel_rfl) (by kernel_rfl) (fun _ _ _ h => h) (Or.inl ⟨by rfl, ?y87⟩) (by assumption) ?z87
          case y87 => (intro w hSw; (try dsimp only at hSw); go_simp) <;> with_reducible rfl
          try simp only [Act.put, List.setIfInBounds_toArray, List.set_cons_zero, List.set_cons_succ]
          refine wpAnyH_take (i := 5) (oi := { dst := some 49, op := Go.Op.load 26 (Go.Operand.tmp 12), type := 26, pos := "law.go:58", after := #[], guard := none }) (v := ?v88) rfl (by kernel_rfl) (by kernel_rfl) (by kernel_rfl) (fun _ _ _ h => h) (Or.inl ⟨by rfl, ?y88⟩) (by assumption) ?z88
          case y88 => (intro w hSw; (try dsimp only at hSw); go_simp) <;> with_reducible rfl
          try simp only [Act.put, List.setIfInBounds_toArray, List.set_cons_zero, List.set_cons_succ]
          refine wpAnyH_take (i := 6) (oi := { dst := some 50, op := Go.Op.move (Go.Operand.tmp 11), type := 22, pos := "law.go:58", after := #[], guard := none }) (v := ?v89) rfl (by kernel_rfl) (by kernel_rfl) (by kernel_rfl) (fun _ _ _ h => h) (Or.inl ⟨by rfl, ?y89⟩) (by assumption) ?z89
          case y89 => (intro w hSw; (try dsimp only at hSw); go_simp) <;> with_reducible rfl
          try simp only [Act.put, List.setIfInBounds_toArray, List.set_cons_zero, List.set_cons_succ]
          refine wpAnyH_take (i := 7) (oi := { dst := some 51, op := Go.Op.move (Go.Operand.tmp 15), type := 3, pos := "law.go:58", after := #[], guard := none }) (v := ?v90) rfl (by kernel_rfl) (by kernel_rfl) (by kernel_rfl) (fun _ _ _ h => h) (Or.inl ⟨by rfl, ?y90⟩) (by assumption) ?z90
          case y90 => (intro w hSw; (try dsimp only at hSw); go_simp) <;> with_reducible rfl
          try simp only [Act.put, List.setIfInBounds_toArray, List.set_cons_zero, List.set_cons_succ]
          refine wpAnyH_take (i := 8) (oi := { dst := some 52, op := Go.Op.move (Go.Operand.tmp 2), type := 5, pos := "law.go:58", after := #[], guard := none }) (v := ?v91) rfl (by kernel_rfl) (by kernel_rfl) (by kernel_rfl) (fun _ _ _ h => h) (Or.inl ⟨by rfl, ?y91⟩) (by assumption) ?z91
          case y91 => (intro w hSw; (try dsimp only at hSw); go_simp) <;> with_reducible rfl
          try simp only [Act.put, List.setIfInBounds_toArray, List.set_cons_zero, List.set_cons_succ]
          refine wpAnyH_take (i := 9) (oi := { dst := some 53, op := Go.Op.convert 5 3 (Go.Operand.tmp 52), type := 3, pos := "law.go:58", after := #[{ on := 8, ground := Go.Ground.data }], guard := none }) (v := ?v92) rfl (by kernel_rfl) (by kernel_rfl) (by kernel_rfl) (fun _ _ _ h => h) (Or.inl ⟨by rfl, ?y92⟩) (by assumption) ?z92
          case y92 => (intro w hSw; (try dsimp only at hSw); go_simp) <;> with_reducible rfl
          try simp only [Act.put, List.setIfInBounds_toArray, List.set_cons_zero, List.set_cons_succ]
          refine wpAnyH_take (i := 10) (oi := { dst := some 54, op := Go.Op.binOp Go.BinOp.add 3 (Go.Operand.tmp 51) (Go.Operand.tmp 53) 3, type := 3, pos := "law.go:58", after := #[{ on := 7, ground := Go.Ground.data }, { on := 9, ground := Go.Ground.data }], guard := none }) (v := ?v93) rfl (by kernel_rfl) (by kernel_rfl) (by kernel_rfl) (fun _ _ _ h => h) (Or.inl ⟨by rfl, ?y93⟩) (by assumption) ?z93
          case y93 => (intro w hSw; (try dsimp only at hSw); go_simp) <;> with_reducible rfl
          try simp only [Act.put, List.setIfInBounds_toArray, List.set_cons_zero, List.set_cons_succ]
          refine wpAnyH_take (i := 11) (oi := { dst := some 55, op := Go.Op.move (Go.Operand.tmp 16), type := 3, pos := "law.go:58", after := #[], guard := none }) (v := ?v94) rfl (by kernel_rfl) (by kernel_rfl) (by kernel_rfl) (fun _ _ _ h => h) (Or.inl ⟨by rfl, ?y94⟩) (by assumption) ?z94
          case y94 => (intro w hSw; (try dsimp only at hSw); go_simp) <;> with_reducible rfl
          try simp only [Act.put, List.setIfInBounds_toArray, List.set_cons_zero, List.set_cons_succ]
          refine wpAnyH_ready (rs := [4]) (by kernel_rfl) (by simp) ?_
          refine (AllReadyH.cons (o := { dst := some 48, op := Go.Op.call { callee := Go.Callee.value (Go.Operand.func 17), args := #[Go.Operand.tmp 44, Go.Operand.tmp 45, Go.Operand.tmp 46, Go.Operand.tmp 47], argTypes := #[26, 22, 3, 3] }, type := 5, pos := "law.go:58", after := #[{ on := 0, ground := Go.Ground.data }, { on := 1, ground := Go.Ground.data }, { on := 2, ground := Go.Ground.data }, { on := 3, ground := Go.Ground.data }], guard := none }) rfl (fun K hK => ?_) AllReadyH.nil)
          · skip
            go_simp
            with_reducible refine (A1.out _ (HM1.out.at HN.out B11.out)).mono ?_
            rintro q_ u12 ⟨rfl, hb⟩
            have B12 := Lib.hid (vian HN.out B11.out hb)
            have P12 := Lib.hid (P11.out.below hb)
            have Q12 := Lib.hid (Q11.out.below hb)
            have C12 := Lib.hid (C11.out.below hb)
            have A12 := Lib.hid (A11.out.below hb)
            clear hb B11 P11 Q11 C11 A11
            refine hK.out _ _ ?s95 (fun hNew => ?r95)
            case s95 => exact ⟨A12.out.2.1, Q12.out.2.1, C12.out.2.1⟩
            clear hK K hHeld
            have hHeld := hNew
            clear hNew
            refine wpAnyH_ready (rs := [12]) (by kernel_rfl) (by simp) ?_
            refine (AllReadyH.cons (o := { dst := some 56, op := Go.Op.call { callee := Go.Callee.value (Go.Operand.func 17), args := #[Go.Operand.tmp 49, Go.Operand.tmp 50, Go.Operand.tmp 54, Go.Operand.tmp 55], argTypes := #[26, 22, 3, 3] }, type := 5, pos := "law.go:58", after := #[{ on := 5, ground := Go.Ground.data }, { on := 6, ground := Go.Ground.data }, { on := 10, ground := Go.Ground.data }, { on := 11, ground := Go.Ground.data }, { on := 4, ground := Go.Ground.chain }], guard := none }) rfl (fun K hK => ?_) AllReadyH.nil)
            · skip
              go_simp
              with_reducible refine (A2.out _ (HM1.out.at HN.out B12.out)).mono ?_
              rintro q_ u13 ⟨rfl, hb⟩
              have B13 := Lib.hid (vian HN.out B12.out hb)
              have P13 := Lib.hid (P12.out.below hb)
              have Q13 := Lib.hid (Q12.out.below hb)
              have C13 := Lib.hid (C12.out.below hb)
              have A13 := Lib.hid (A12.out.below hb)
              clear hb B12 P12 Q12 C12 A12
              refine hK.out _ _ ?s96 (fun hNew => ?r96)
              case s96 => exact ⟨A13.out.2.1, Q13.out.2.1, C13.out.2.1⟩
              clear hK K hHeld
              have hHeld := hNew
              clear hNew
              refine wpAnyH_take (i := 13) (oi := { dst := some 57, op := Go.Op.binOp Go.BinOp.eql 5 (Go.Operand.tmp 48) (Go.Operand.tmp 56) 5, type := 4, pos := "law.go:58", after := #[{ on := 4, ground := Go.Ground.data }, { on := 12, ground := Go.Ground.data }], guard := none }) (v := ?v97) rfl (by kernel_rfl) (by kernel_rfl) (by kernel_rfl) (fun _ _ _ h => h) (Or.inl ⟨by rfl, ?y97⟩) (by assumption) ?z97
              case y97 => (intro w hSw; (try dsimp only at hSw); go_simp) <;> with_reducible rfl
              try simp only [Act.put, List.setIfInBounds_toArray, List.set_cons_zero, List.set_cons_succ]
              refine wpAnyH_take (i := 14) (oi := { dst := some 58, op := Go.Op.move (Go.Operand.tmp 57), type := 4, pos := "law.go:58", after := #[{ on := 13, ground := Go.Ground.data }, { on := 12, ground := Go.Ground.chain }], guard := none }) (v := ?v98) rfl (by kernel_rfl) (by kernel_rfl) (by kernel_rfl) (fun _ _ _ h => h) (Or.inl ⟨by rfl, ?y98⟩) (by assumption) ?z98
              case y98 => (intro w hSw; (try dsimp only at hSw); go_simp) <;> with_reducible rfl
              try simp only [Act.put, List.setIfInBounds_toArray, List.set_cons_zero, List.set_cons_succ]
              refine wpAnyH_take (i := 15) (oi := { dst := some 59, op := Go.Op.load 26 (Go.Operand.tmp 14), type := 26, pos := "law.go:58", after := #[{ on := 14, ground := Go.Ground.guard }], guard := some (14, true) }) (v := ?v99) rfl (by kernel_rfl) (by kernel_rfl) (by kernel_rfl) (fun _ _ _ h => h) (Or.inl ⟨by rfl, ?y99⟩) (by assumption) ?z99
              case y99 => (intro w hSw; (try dsimp only at hSw); go_simp) <;> with_reducible rfl
              try simp only [Act.put, List.setIfInBounds_toArray, List.set_cons_zero, List.set_cons_succ]
              refine wpAnyH_take (i := 16) (oi := { dst := some 60, op := Go.Op.move (Go.Operand.tmp 11), type := 22, pos := "law.go:58", after := #[{ on := 14, ground := Go.Ground.guard }], guard := some (14, true) }) (v := ?v100) rfl (by kernel_rfl) (by kernel_rfl) (by kernel_rfl) (fun _ _ _ h => h) (Or.inl ⟨by rfl, ?y100⟩) (by assumption) ?z100
              case y100 => (intro w hSw; (try dsimp only at hSw); go_simp) <;> with_reducible rfl
              try simp only [Act.put, List.setIfInBounds_toArray, List.set_cons_zero, List.set_cons_succ]
              refine wpAnyH_take (i := 17) (oi := { dst := some 61, op := Go.Op.move (Go.Operand.tmp 15), type := 3, pos := "law.go:58", after := #[{ on := 14, ground := Go.Ground.guard }], guard := some (14, true) }) (v := ?v101) rfl (by kernel_rfl) (by kernel_rfl) (by kernel_rfl) (fun _ _ _ h => h) (Or.inl ⟨by rfl, ?y101⟩) (by assumption) ?z101
              case y101 => (intro w hSw; (try dsimp only at hSw); go_simp) <;> with_reducible rfl
              try simp only [Act.put, List.setIfInBounds_toArray, List.set_cons_zero, List.set_cons_succ]
              refine wpAnyH_take (i := 18) (oi := { dst := some 62, op := Go.Op.move (Go.Operand.tmp 16), type := 3, pos := "law.go:58", after := #[{ on := 14, ground := Go.Ground.guard }], guard := some (14, true) }) (v := ?v102) rfl (by kernel_rfl) (by kernel_rfl) (by kernel_rfl) (fun _ _ _ h => h) (Or.inl ⟨by rfl, ?y102⟩) (by assumption) ?z102
              case y102 => (intro w hSw; (try dsimp only at hSw); go_simp) <;> with_reducible rfl
              try simp only [Act.put, List.setIfInBounds_toArray, List.set_cons_zero, List.set_cons_succ]
              refine wpAnyH_take (i := 20) (oi := { dst := some 64, op := Go.Op.load 26 (Go.Operand.tmp 12), type := 26, pos := "law.go:58", after := #[{ on := 14, ground := Go.Ground.guard }], guard := some (14, true) }) (v := ?v103) rfl (by kernel_rfl) (by kernel_rfl) (by kernel_rfl) (fun _ _ _ h => h) (Or.inl ⟨by rfl, ?y103⟩) (by assumption) ?z103
              case y103 => (intro w hSw; (try dsimp only at hSw); go_simp) <;> with_reducible rfl
              try simp only [Act.put, List.setIfInBounds_toArray, List.set_cons_zero, List.set_cons_succ]
              refine wpAnyH_take (i := 21) (oi := { dst := some 65, op := Go.Op.move (Go.Operand.tmp 11), type := 22, pos := "law.go:58", after := #[{ on := 14, ground := Go.Ground.guard }], guard := some (14, true) }) (v := ?v104) rfl (by kernel_rfl) (by kernel_rfl) (by kernel_rfl) (fun _ _ _ h => h) (Or.inl ⟨by rfl, ?y104⟩) (by assumption) ?z104
              case y104 => (intro w hSw; (try dsimp only at hSw); go_simp) <;> with_reducible rfl
              try simp only [Act.put, List.setIfInBounds_toArray, List.set_cons_zero, List.set_cons_succ]
              refine wpAnyH_take (i := 22) (oi := { dst := some 66, op := Go.Op.move (Go.Operand.tmp 15), type := 3, pos := "law.go:58", after := #[{ on := 14, ground := Go.Ground.guard }], guard := some (14, true) }) (v := ?v105) rfl (by kernel_rfl) (by kernel_rfl) (by kernel_rfl) (fun _ _ _ h => h) (Or.inl ⟨by rfl, ?y105⟩) (by assumption) ?z105
              case y105 => (intro w hSw; (try dsimp only at hSw); go_simp) <;> with_reducible rfl
              try simp only [Act.put, List.setIfInBounds_toArray, List.set_cons_zero, List.set_cons_succ]
              refine wpAnyH_take (i := 23) (oi := { dst := some 67, op := Go.Op.move (Go.Operand.tmp 16), type := 3, pos := "law.go:58", after := #[{ on := 14, ground := Go.Ground.guard }], guard := some (14, true) }) (v := ?v106) rfl (by kernel_rfl) (by kernel_rfl) (by kernel_rfl) (fun _ _ _ h => h) (Or.inl ⟨by rfl, ?y106⟩) (by assumption) ?z106
              case y106 => (intro w hSw; (try dsimp only at hSw); go_simp) <;> with_reducible rfl
              try simp only [Act.put, List.setIfInBounds_toArray, List.set_cons_zero, List.set_cons_succ]
              refine wpAnyH_take (i := 24) (oi := { dst := some 68, op := Go.Op.move (Go.Operand.tmp 2), type := 5, pos := "law.go:58", after := #[{ on := 14, ground := Go.Ground.guard }], guard := some (14, true) }) (v := ?v107) rfl (by kernel_rfl) (by kernel_rfl) (by kernel_rfl) (fun _ _ _ h => h) (Or.inl ⟨by rfl, ?y107⟩) (by assumption) ?z107
              case y107 => (intro w hSw; (try dsimp only at hSw); go_simp) <;> with_reducible rfl
              try simp only [Act.put, List.setIfInBounds_toArray, List.set_cons_zero, List.set_cons_succ]
              refine wpAnyH_take (i := 25) (oi := { dst := some 69, op := Go.Op.convert 5 3 (Go.Operand.tmp 68), type := 3, pos := "law.go:58", after := #[{ on := 24, ground := Go.Ground.data }, { on := 14, ground := Go.Ground.guard }], guard := some (14, true) }) (v := ?v108) rfl (by kernel_rfl) (by kernel_rfl) (by kernel_rfl) (fun _ _ _ h => h) (Or.inl ⟨by rfl, ?y108⟩) (by assumption) ?z108
              case y108 => (intro w hSw; (try dsimp only at hSw); go_simp) <;> with_reducible rfl
              try simp only [Act.put, List.setIfInBounds_toArray, List.set_cons_zero, List.set_cons_succ]
              refine wpAnyH_take (i := 26) (oi := { dst := some 70, op := Go.Op.binOp Go.BinOp.add 3 (Go.Operand.tmp 67) (Go.Operand.tmp 69) 3, type := 3, pos := "law.go:58", after := #[{ on := 23, ground := Go.Ground.data }, { on := 25, ground := Go.Ground.data }, { on := 14, ground := Go.Ground.guard }], guard := some (14, true) }) (v := ?v109) rfl (by kernel_rfl) (by kernel_rfl) (by kernel_rfl) (fun _ _ _ h => h) (Or.inl ⟨by rfl, ?y109⟩) (by assumption) ?z109
              case y109 => (intro w hSw; (try dsimp only at hSw); go_simp) <;> with_reducible rfl
              try simp only [Act.put, List.setIfInBounds_toArray, List.set_cons_zero, List.set_cons_succ]
              refine wpAnyH_ready (rs := [19]) (by kernel_rfl) (by simp) ?_
              refine (AllReadyH.cons (o := { dst := some 63, op := Go.Op.call { callee := Go.Callee.value (Go.Operand.func 17), args := #[Go.Operand.tmp 59, Go.Operand.tmp 60, Go.Operand.tmp 61, Go.Operand.tmp 62], argTypes := #[26, 22, 3, 3] }, type := 5, pos := "law.go:58", after := #[{ on := 15, ground := Go.Ground.data }, { on := 16, ground := Go.Ground.data }, { on := 17, ground := Go.Ground.data }, { on := 18, ground := Go.Ground.data }, { on := 14, ground := Go.Ground.chain }, { on := 14, ground := Go.Ground.guard }], guard := some (14, true) }) rfl (fun K hK => ?_) AllReadyH.nil)
              · skip
                go_simp
                with_reducible refine (C1.out _ (HM1.out.at HN.out B13.out)).mono ?_
                rintro q_ u14 ⟨rfl, hb⟩
                have B14 := Lib.hid (vian HN.out B13.out hb)
                have P14 := Lib.hid (P13.out.below hb)
                have Q14 := Lib.hid (Q13.out.below hb)
                have C14 := Lib.hid (C13.out.below hb)
                have A14 := Lib.hid (A13.out.below hb)
                clear hb B13 P13 Q13 C13 A13
                refine hK.out _ _ ?s110 (fun hNew => ?r110)
                case s110 => exact ⟨A14.out.2.1, Q14.out.2.1, C14.out.2.1⟩
                clear hK K hHeld
                have hHeld := hNew
                clear hNew
                refine wpAnyH_ready (rs := [27]) (by kernel_rfl) (by simp) ?_
                refine (AllReadyH.cons (o := { dst := some 71, op := Go.Op.call { callee := Go.Callee.value (Go.Operand.func 17), args := #[Go.Operand.tmp 64, Go.Operand.tmp 65, Go.Operand.tmp 66, Go.Operand.tmp 70], argTypes := #[26, 22, 3, 3] }, type := 5, pos := "law.go:58", after := #[{ on := 20, ground := Go.Ground.data }, { on := 21, ground := Go.Ground.data }, { on := 22, ground := Go.Ground.data }, { on := 26, ground := Go.Ground.data }, { on := 19, ground := Go.Ground.chain }, { on := 14, ground := Go.Ground.guard }], guard := some (14, true) }) rfl (fun K hK => ?_) AllReadyH.nil)
                · skip
                  go_simp
                  with_reducible refine (C2.out _ (HM1.out.at HN.out B14.out)).mono ?_
                  rintro q_ u15 ⟨rfl, hb⟩
                  have B15 := Lib.hid (vian HN.out B14.out hb)
                  have P15 := Lib.hid (P14.out.below hb)
                  have Q15 := Lib.hid (Q14.out.below hb)
                  have C15 := Lib.hid (C14.out.below hb)
                  have A15 := Lib.hid (A14.out.below hb)
                  clear hb B14 P14 Q14 C14 A14
                  refine hK.out _ _ ?s111 (fun hNew => ?r111)
                  case s111 => exact ⟨A15.out.2.1, Q15.out.2.1, C15.out.2.1⟩
                  clear hK K hHeld
                  have hHeld := hNew
                  clear hNew
                  refine wpAnyH_take (i := 28) (oi := { dst := some 72, op := Go.Op.binOp Go.BinOp.eql 5 (Go.Operand.tmp 63) (Go.Operand.tmp 71) 5, type := 4, pos := "law.go:58", after := #[{ on := 19, ground := Go.Ground.data }, { on := 27, ground := Go.Ground.data }, { on := 14, ground := Go.Ground.guard }], guard := some (14, true) }) (v := ?v112) rfl (by kernel_rfl) (by kernel_rfl) (by kernel_rfl) (fun _ _ _ h => h) (Or.inl ⟨by rfl, ?y112⟩) (by assumption) ?z112
                  case y112 => (intro w hSw; (try dsimp only at hSw); go_simp) <;> with_reducible rfl
                  try simp only [Act.put, List.setIfInBounds_toArray, List.set_cons_zero, List.set_cons_succ]
                  refine wpAnyH_take (i := 29) (oi := { dst := some 73, op := Go.Op.pick (Go.Operand.tmp 58) (Go.Operand.tmp 72) (Go.Operand.const (Go.Value.bool false)), type := 4, pos := "law.go:58", after := #[{ on := 14, ground := Go.Ground.data }, { on := 28, ground := Go.Ground.data }], guard := none }) (v := ?v113) rfl (by kernel_rfl) (by kernel_rfl) (by kernel_rfl) (fun _ _ _ h => h) (Or.inl ⟨by rfl, ?y113⟩) (by assumption) ?z113
                  case y113 => (intro w hSw; (try dsimp only at hSw); go_simp) <;> with_reducible rfl
                  try simp only [Act.put, List.setIfInBounds_toArray, List.set_cons_zero, List.set_cons_succ]
                  refine wpAnyH_take (i := 30) (oi := { dst := some 74, op := Go.Op.move (Go.Operand.tmp 73), type := 4, pos := "law.go:58", after := #[{ on := 29, ground := Go.Ground.data }, { on := 27, ground := Go.Ground.chain }], guard := none }) (v := ?v114) rfl (by kernel_rfl) (by kernel_rfl) (by kernel_rfl) (fun _ _ _ h => h) (Or.inl ⟨by rfl, ?y114⟩) (by assumption) ?z114
                  case y114 => (intro w hSw; (try dsimp only at hSw); go_simp) <;> with_reducible rfl
                  try simp only [Act.put, List.setIfInBounds_toArray, List.set_cons_zero, List.set_cons_succ]
                  refine wpAnyH_take (i := 31) (oi := { dst := some 75, op := Go.Op.load 26 (Go.Operand.tmp 12), type := 26, pos := "law.go:58", after := #[{ on := 30, ground := Go.Ground.guard }], guard := some (30, true) }) (v := ?v115) rfl (by kernel_rfl) (by kernel_rfl) (by kernel_rfl) (fun _ _ _ h => h) (Or.inl ⟨by rfl, ?y115⟩) (by assumption) ?z115
                  case y115 => (intro w hSw; (try dsimp only at hSw); go_simp) <;> with_reducible rfl
                  try simp only [Act.put, List.setIfInBounds_toArray, List.set_cons_zero, List.set_cons_succ]
                  refine wpAnyH_take (i := 32) (oi := { dst := some 76, op := Go.Op.move (Go.Operand.tmp 11), type := 22, pos := "law.go:58", after := #[{ on := 30, ground := Go.Ground.guard }], guard := some (30, true) }) (v := ?v116) rfl (by kernel_rfl) (by kernel_rfl) (by kernel_rfl) (fun _ _ _ h => h) (Or.inl ⟨by rfl, ?y116⟩) (by assumption) ?z116
                  case y116 => (intro w hSw; (try dsimp only at hSw); go_simp) <;> with_reducible rfl
                  try simp only [Act.put, List.setIfInBounds_toArray, List.set_cons_zero, List.set_cons_succ]
                  refine wpAnyH_take (i := 33) (oi := { dst := some 77, op := Go.Op.move (Go.Operand.tmp 15), type := 3, pos := "law.go:58", after := #[{ on := 30, ground := Go.Ground.guard }], guard := some (30, true) }) (v := ?v117) rfl (by kernel_rfl) (by kernel_rfl) (by kernel_rfl) (fun _ _ _ h => h) (Or.inl ⟨by rfl, ?y117⟩) (by assumption) ?z117
                  case y117 => (intro w hSw; (try dsimp only at hSw); go_simp) <;> with_reducible rfl
                  try simp only [Act.put, List.setIfInBounds_toArray, List.set_cons_zero, List.set_cons_succ]
                  refine wpAnyH_take (i := 34) (oi := { dst := some 78, op := Go.Op.binOp Go.BinOp.add 3 (Go.Operand.tmp 77) (Go.Operand.const (Go.Value.int Go.IntKind.i64 256)) 3, type := 3, pos := "law.go:58", after := #[{ on := 33, ground := Go.Ground.data }, { on := 30, ground := Go.Ground.guard }], guard := some (30, true) }) (v := ?v118) rfl (by kernel_rfl) (by kernel_rfl) (by kernel_rfl) (fun _ _ _ h => h) (Or.inl ⟨by rfl, ?y118⟩) (by assumption) ?z118
                  case y118 => (intro w hSw; (try dsimp only at hSw); go_simp) <;> with_reducible rfl
                  try simp only [Act.put, List.setIfInBounds_toArray, List.set_cons_zero, List.set_cons_succ]
                  refine wpAnyH_take (i := 35) (oi := { dst := some 79, op := Go.Op.move (Go.Operand.tmp 16), type := 3, pos := "law.go:58", after := #[{ on := 30, ground := Go.Ground.guard }], guard := some (30, true) }) (v := ?v119) rfl (by kernel_rfl) (by kernel_rfl) (by kernel_rfl) (fun _ _ _ h => h) (Or.inl ⟨by rfl, ?y119⟩) (by assumption) ?z119
                  case y119 => (intro w hSw; (try dsimp only at hSw); go_simp) <;> with_reducible rfl
                  try simp only [Act.put, List.setIfInBounds_toArray, List.set_cons_zero, List.set_cons_succ]
                  refine wpAnyH_take (i := 37) (oi := { dst := some 81, op := Go.Op.load 26 (Go.Operand.tmp 12), type := 26, pos := "law.go:58", after := #[{ on := 30, ground := Go.Ground.guard }], guard := some (30, true) }) (v := ?v120) rfl (by kernel_rfl) (by kernel_rfl) (by kernel_rfl) (fun _ _ _ h => h) (Or.inl ⟨by rfl, ?y120⟩) (by assumption) ?z120
                  case y120 => (intro w hSw; (try dsimp only at hSw); go_simp) <;> with_reducible rfl
                  try simp only [Act.put, List.setIfInBounds_toArray, List.set_cons_zero, List.set_cons_succ]
                  refine wpAnyH_take (i := 38) (oi := { dst := some 82, op := Go.Op.move (Go.Operand.tmp 11), type := 22, pos := "law.go:58", after := #[{ on := 30, ground := Go.Ground.guard }], guard := some (30, true) }) (v := ?v121) rfl (by kernel_rfl) (by kernel_rfl) (by kernel_rfl) (fun _ _ _ h => h) (Or.inl ⟨by rfl, ?y121⟩) (by assumption) ?z121
                  case y121 => (intro w hSw; (try dsimp only at hSw); go_simp) <;> with_reducible rfl
                  try simp only [Act.put, List.setIfInBounds_toArray, List.set_cons_zero, List.set_cons_succ]
                  refine wpAnyH_take (i := 39) (oi := { dst := some 83, op := Go.Op.move (Go.Operand.tmp 15), type := 3, pos := "law.go:58", after := #[{ on := 30, ground := Go.Ground.guard }], guard := some (30, true) }) (v := ?v122) rfl (by kernel_rfl) (by kernel_rfl) (by kernel_rfl) (fun _ _ _ h => h) (Or.inl ⟨by rfl, ?y122⟩) (by assumption) ?z122
                  case y122 => (intro w hSw; (try dsimp only at hSw); go_simp) <;> with_reducible rfl
                  try simp only [Act.put, List.setIfInBounds_toArray, List.set_cons_zero, List.set_cons_succ]
                  refine wpAnyH_take (i := 40) (oi := { dst := some 84, op := Go.Op.move (Go.Operand.tmp 16), type := 3, pos := "law.go:58", after := #[{ on := 30, ground := Go.Ground.guard }], guard := some (30, true) }) (v := ?v123) rfl (by kernel_rfl) (by kernel_rfl) (by kernel_rfl) (fun _ _ _ h => h) (Or.inl ⟨by rfl, ?y123⟩) (by assumption) ?z123
                  case y123 => (intro w hSw; (try dsimp only at hSw); go_simp) <;> with_reducible rfl
                  try simp only [Act.put, List.setIfInBounds_toArray, List.set_cons_zero, List.set_cons_succ]
                  refine wpAnyH_ready (rs := [36]) (by kernel_rfl) (by simp) ?_
                  refine (AllReadyH.cons (o := { dst := some 80, op := Go.Op.call { callee := Go.Callee.value (Go.Operand.func 17), args := #[Go.Operand.tmp 75, Go.Operand.tmp 76, Go.Operand.tmp 78, Go.Operand.tmp 79], argTypes := #[26, 22, 3, 3] }, type := 5, pos := "law.go:58", after := #[{ on := 31, ground := Go.Ground.data }, { on := 32, ground := Go.Ground.data }, { on := 34, ground := Go.Ground.data }, { on := 35, ground := Go.Ground.data }, { on := 30, ground := Go.Ground.chain }, { on := 30, ground := Go.Ground.guard }], guard := some (30, true) }) rfl (fun K hK => ?_) AllReadyH.nil)
                  · skip
                    go_simp
                    with_reducible refine (D1.out _ (HM1.out.at HN.out B15.out)).mono ?_
                    rintro q_ u16 ⟨rfl, hb⟩
                    have B16 := Lib.hid (vian HN.out B15.out hb)
                    have P16 := Lib.hid (P15.out.below hb)
                    have Q16 := Lib.hid (Q15.out.below hb)
                    have C16 := Lib.hid (C15.out.below hb)
                    have A16 := Lib.hid (A15.out.below hb)
                    clear hb B15 P15 Q15 C15 A15
                    refine hK.out _ _ ?s124 (fun hNew => ?r124)
                    case s124 => exact ⟨A16.out.2.1, Q16.out.2.1, C16.out.2.1⟩
                    clear hK K hHeld
                    have hHeld := hNew
                    clear hNew
                    refine wpAnyH_ready (rs := [41]) (by kernel_rfl) (by simp) ?_
                    refine (AllReadyH.cons (o := { dst := some 85, op := Go.Op.call { callee := Go.Callee.value (Go.Operand.func 17), args := #[Go.Operand.tmp 81, Go.Operand.tmp 82, Go.Operand.tmp 83, Go.Operand.tmp 84], argTypes := #[26, 22, 3, 3] }, type := 5, pos := "law.go:58", after := #[{ on := 37, ground := Go.Ground.data }, { on := 38, ground := Go.Ground.data }, { on := 39, ground := Go.Ground.data }, { on := 40, ground := Go.Ground.data }, { on := 36, ground := Go.Ground.chain }, { on := 30, ground := Go.Ground.guard }], guard := some (30, true) }) rfl (fun K hK => ?_) AllReadyH.nil)
                    · skip
                      go_simp
                      with_reducible refine (D0.out _ (HM1.out.at HN.out B16.out)).mono ?_
                      rintro q_ u17 ⟨rfl, hb⟩
                      have B17 := Lib.hid (vian HN.out B16.out hb)
                      have P17 := Lib.hid (P16.out.below hb)
                      have Q17 := Lib.hid (Q16.out.below hb)
                      have C17 := Lib.hid (C16.out.below hb)
                      have A17 := Lib.hid (A16.out.below hb)
                      clear hb B16 P16 Q16 C16 A16
                      refine hK.out _ _ ?s125 (fun hNew => ?r125)
                      case s125 => exact ⟨A17.out.2.1, Q17.out.2.1, C17.out.2.1⟩
                      clear hK K hHeld
                      have hHeld := hNew
                      clear hNew
                      refine wpAnyH_take (i := 42) (oi := { dst := some 86, op := Go.Op.binOp Go.BinOp.eql 5 (Go.Operand.tmp 80) (Go.Operand.tmp 85) 5, type := 4, pos := "law.go:58", after := #[{ on := 36, ground := Go.Ground.data }, { on := 41, ground := Go.Ground.data }, { on := 30, ground := Go.Ground.guard }], guard := some (30, true) }) (v := ?v126) rfl (by kernel_rfl) (by kernel_rfl) (by kernel_rfl) (fun _ _ _ h => h) (Or.inl ⟨by rfl, ?y126⟩) (by assumption) ?z126
                      case y126 => (intro w hSw; (try dsimp only at hSw); go_simp) <;> with_reducible rfl
                      try simp only [Act.put, List.setIfInBounds_toArray, List.set_cons_zero, List.set_cons_succ]
                      refine wpAnyH_take (i := 43) (oi := { dst := some 87, op := Go.Op.pick (Go.Operand.tmp 74) (Go.Operand.tmp 86) (Go.Operand.const (Go.Value.bool false)), type := 4, pos := "law.go:58", after := #[{ on := 30, ground := Go.Ground.data }, { on := 42, ground := Go.Ground.data }], guard := none }) (v := ?v127) rfl (by kernel_rfl) (by kernel_rfl) (by kernel_rfl) (fun _ _ _ h => h) (Or.inl ⟨by rfl, ?y127⟩) (by assumption) ?z127
                      case y127 => (intro w hSw; (try dsimp only at hSw); go_simp) <;> with_reducible rfl
                      try simp only [Act.put, List.setIfInBounds_toArray, List.set_cons_zero, List.set_cons_succ]
                      refine wpAnyH_take (i := 44) (oi := { dst := some 88, op := Go.Op.move (Go.Operand.tmp 87), type := 4, pos := "law.go:58", after := #[{ on := 43, ground := Go.Ground.data }, { on := 41, ground := Go.Ground.chain }], guard := none }) (v := ?v128) rfl (by kernel_rfl) (by kernel_rfl) (by kernel_rfl) (fun _ _ _ h => h) (Or.inl ⟨by rfl, ?y128⟩) (by assumption) ?z128
                      case y128 => (intro w hSw; (try dsimp only at hSw); go_simp) <;> with_reducible rfl
                      try simp only [Act.put, List.setIfInBounds_toArray, List.set_cons_zero, List.set_cons_succ]
                      refine wpAnyH_take (i := 45) (oi := { dst := some 89, op := Go.Op.load 26 (Go.Operand.tmp 12), type := 26, pos := "law.go:58", after := #[{ on := 44, ground := Go.Ground.guard }], guard := some (44, true) }) (v := ?v129) rfl (by kernel_rfl) (by kernel_rfl) (by kernel_rfl) (fun _ _ _ h => h) (Or.inl ⟨by rfl, ?y129⟩) (by assumption) ?z129
                      case y129 => (intro w hSw; (try dsimp only at hSw); go_simp) <;> with_reducible rfl
                      try simp only [Act.put, List.setIfInBounds_toArray, List.set_cons_zero, List.set_cons_succ]
                      refine wpAnyH_take (i := 46) (oi := { dst := some 90, op := Go.Op.move (Go.Operand.tmp 11), type := 22, pos := "law.go:58", after := #[{ on := 44, ground := Go.Ground.guard }], guard := some (44, true) }) (v := ?v130) rfl (by kernel_rfl) (by kernel_rfl) (by kernel_rfl) (fun _ _ _ h => h) (Or.inl ⟨by rfl, ?y130⟩) (by assumption) ?z130
                      case y130 => (intro w hSw; (try dsimp only at hSw); go_simp) <;> with_reducible rfl
                      try simp only [Act.put, List.setIfInBounds_toArray, List.set_cons_zero, List.set_cons_succ]
                      refine wpAnyH_take (i := 47) (oi := { dst := some 91, op := Go.Op.move (Go.Operand.tmp 15), type := 3, pos := "law.go:58", after := #[{ on := 44, ground := Go.Ground.guard }], guard := some (44, true) }) (v := ?v131) rfl (by kernel_rfl) (by kernel_rfl) (by kernel_rfl) (fun _ _ _ h => h) (Or.inl ⟨by rfl, ?y131⟩) (by assumption) ?z131
                      case y131 => (intro w hSw; (try dsimp only at hSw); go_simp) <;> with_reducible rfl
                      try simp only [Act.put, List.setIfInBounds_toArray, List.set_cons_zero, List.set_cons_succ]
                      refine wpAnyH_take (i := 48) (oi := { dst := some 92, op := Go.Op.move (Go.Operand.tmp 16), type := 3, pos := "law.go:58", after := #[{ on := 44, ground := Go.Ground.guard }], guard := some (44, true) }) (v := ?v132) rfl (by kernel_rfl) (by kernel_rfl) (by kernel_rfl) (fun _ _ _ h => h) (Or.inl ⟨by rfl, ?y132⟩) (by assumption) ?z132
                      case y132 => (intro w hSw; (try dsimp only at hSw); go_simp) <;> with_reducible rfl
                      try simp only [Act.put, List.setIfInBounds_toArray, List.set_cons_zero, List.set_cons_succ]
                      refine wpAnyH_take (i := 49) (oi := { dst := some 93, op := Go.Op.binOp Go.BinOp.sub 3 (Go.Operand.tmp 92) (Go.Operand.const (Go.Value.int Go.IntKind.i64 256)) 3, type := 3, pos := "law.go:58", after := #[{ on := 48, ground := Go.Ground.data }, { on := 44, ground := Go.Ground.guard }], guard := some (44, true) }) (v := ?v133) rfl (by kernel_rfl) (by kernel_rfl) (by kernel_rfl) (fun _ _ _ h => h) (Or.inl ⟨by rfl, ?y133⟩) (by assumption) ?z133
                      case y133 => (intro w hSw; (try dsimp only at hSw); go_simp) <;> with_reducible rfl
                      try simp only [Act.put, List.setIfInBounds_toArray, List.set_cons_zero, List.set_cons_succ]
                      refine wpAnyH_take (i := 51) (oi := { dst := some 95, op := Go.Op.load 26 (Go.Operand.tmp 12), type := 26, pos := "law.go:58", after := #[{ on := 44, ground := Go.Ground.guard }], guard := some (44, true) }) (v := ?v134) rfl (by kernel_rfl) (by kernel_rfl) (by kernel_rfl) (fun _ _ _ h => h) (Or.inl ⟨by rfl, ?y134⟩) (by assumption) ?z134
                      case y134 => (intro w hSw; (try dsimp only at hSw); go_simp) <;> with_reducible rfl
                      try simp only [Act.put, List.setIfInBounds_toArray, List.set_cons_zero, List.set_cons_succ]
                      refine wpAnyH_take (i := 52) (oi := { dst := some 96, op := Go.Op.move (Go.Operand.tmp 11), type := 22, pos := "law.go:58", after := #[{ on := 44, ground := Go.Ground.guard }], guard := some (44, true) }) (v := ?v135) rfl (by kernel_rfl) (by kernel_rfl) (by kernel_rfl) (fun _ _ _ h => h) (Or.inl ⟨by rfl, ?y135⟩) (by assumption) ?z135
                      case y135 => (intro w hSw; (try dsimp only at hSw); go_simp) <;> with_reducible rfl
                      try simp only [Act.put, List.setIfInBounds_toArray, List.set_cons_zero, List.set_cons_succ]
                      refine wpAnyH_take (i := 53) (oi := { dst := some 97, op := Go.Op.move (Go.Operand.tmp 15), type := 3, pos := "law.go:58", after := #[{ on := 44, ground := Go.Ground.guard }], guard := some (44, true) }) (v := ?v136) rfl (by kernel_rfl) (by kernel_rfl) (by kernel_rfl) (fun _ _ _ h => h) (Or.inl ⟨by rfl, ?y136⟩) (by assumption) ?z136
                      case y136 => (intro w hSw; (try dsimp only at hSw); go_simp) <;> with_reducible rfl
                      try simp only [Act.put, List.setIfInBounds_toArray, List.set_cons_zero, List.set_cons_succ]
                      refine wpAnyH_take (i := 54) (oi := { dst := some 98, op := Go.Op.move (Go.Operand.tmp 16), type := 3, pos := "law.go:58", after := #[{ on := 44, ground := Go.Ground.guard }], guard := some (44, true) }) (v := ?v137) rfl (by kernel_rfl) (by kernel_rfl) (by kernel_rfl) (fun _ _ _ h => h) (Or.inl ⟨by rfl, ?y137⟩) (by assumption) ?z137
                      case y137 => (intro w hSw; (try dsimp only at hSw); go_simp) <;> with_reducible rfl
                      try simp only [Act.put, List.setIfInBounds_toArray, List.set_cons_zero, List.set_cons_succ]
                      refine wpAnyH_ready (rs := [50]) (by kernel_rfl) (by simp) ?_
                      refine (AllReadyH.cons (o := { dst := some 94, op := Go.Op.call { callee := Go.Callee.value (Go.Operand.func 17), args := #[Go.Operand.tmp 89, Go.Operand.tmp 90, Go.Operand.tmp 91, Go.Operand.tmp 93], argTypes := #[26, 22, 3, 3] }, type := 5, pos := "law.go:58", after := #[{ on := 45, ground := Go.Ground.data }, { on := 46, ground := Go.Ground.data }, { on := 47, ground := Go.Ground.data }, { on := 49, ground := Go.Ground.data }, { on := 44, ground := Go.Ground.chain }, { on := 44, ground := Go.Ground.guard }], guard := some (44, true) }) rfl (fun K hK => ?_) AllReadyH.nil)
                      · skip
                        go_simp
                        with_reducible refine (D2.out _ (HM1.out.at HN.out B17.out)).mono ?_
                        rintro q_ u18 ⟨rfl, hb⟩
                        have B18 := Lib.hid (vian HN.out B17.out hb)
                        have P18 := Lib.hid (P17.out.below hb)
                        have Q18 := Lib.hid (Q17.out.below hb)
                        have C18 := Lib.hid (C17.out.below hb)
                        have A18 := Lib.hid (A17.out.below hb)
                        clear hb B17 P17 Q17 C17 A17
                        refine hK.out _ _ ?s138 (fun hNew => ?r138)
                        case s138 => exact ⟨A18.out.2.1, Q18.out.2.1, C18.out.2.1⟩
                        clear hK K hHeld
                        have hHeld := hNew
                        clear hNew
                        refine wpAnyH_ready (rs := [55]) (by kernel_rfl) (by simp) ?_
                        refine (AllReadyH.cons (o := { dst := some 99, op := Go.Op.call { callee := Go.Callee.value (Go.Operand.func 17), args := #[Go.Operand.tmp 95, Go.Operand.tmp 96, Go.Operand.tmp 97, Go.Operand.tmp 98], argTypes := #[26, 22, 3, 3] }, type := 5, pos := "law.go:58", after := #[{ on := 51, ground := Go.Ground.data }, { on := 52, ground := Go.Ground.data }, { on := 53, ground := Go.Ground.data }, { on := 54, ground := Go.Ground.data }, { on := 50, ground := Go.Ground.chain }, { on := 44, ground := Go.Ground.guard }], guard := some (44, true) }) rfl (fun K hK => ?_) AllReadyH.nil)
                        · skip
                          go_simp
                          with_reducible refine (D0.out _ (HM1.out.at HN.out B18.out)).mono ?_
                          rintro q_ u19 ⟨rfl, hb⟩
                          have B19 := Lib.hid (vian HN.out B18.out hb)
                          have P19 := Lib.hid (P18.out.below hb)
                          have Q19 := Lib.hid (Q18.out.below hb)
                          have C19 := Lib.hid (C18.out.below hb)
                          have A19 := Lib.hid (A18.out.below hb)
                          clear hb B18 P18 Q18 C18 A18
                          refine hK.out _ _ ?s139 (fun hNew => ?r139)
                          case s139 => exact ⟨A19.out.2.1, Q19.out.2.1, C19.out.2.1⟩
                          clear hK K hHeld
                          have hHeld := hNew
                          clear hNew
                          refine wpAnyH_take (i := 56) (oi := { dst := some 100, op := Go.Op.binOp Go.BinOp.eql 5 (Go.Operand.tmp 94) (Go.Operand.tmp 99) 5, type := 4, pos := "law.go:58", after := #[{ on := 50, ground := Go.Ground.data }, { on := 55, ground := Go.Ground.data }, { on := 44, ground := Go.Ground.guard }], guard := some (44, true) }) (v := ?v140) rfl (by kernel_rfl) (by kernel_rfl) (by kernel_rfl) (fun _ _ _ h => h) (Or.inl ⟨by rfl, ?y140⟩) (by assumption) ?z140
                          case y140 => (intro w hSw; (try dsimp only at hSw); go_simp) <;> with_reducible rfl
                          try simp only [Act.put, List.setIfInBounds_toArray, List.set_cons_zero, List.set_cons_succ]
                          refine wpAnyH_take (i := 57) (oi := { dst := some 101, op := Go.Op.pick (Go.Operand.tmp 88) (Go.Operand.tmp 100) (Go.Operand.const (Go.Value.bool false)), type := 4, pos := "law.go:58", after := #[{ on := 44, ground := Go.Ground.data }, { on := 56, ground := Go.Ground.data }], guard := none }) (v := ?v141) rfl (by kernel_rfl) (by kernel_rfl) (by kernel_rfl) (fun _ _ _ h => h) (Or.inl ⟨by rfl, ?y141⟩) (by assumption) ?z141
                          case y141 => (intro w hSw; (try dsimp only at hSw); go_simp) <;> with_reducible rfl
                          try simp only [Act.put, List.setIfInBounds_toArray, List.set_cons_zero, List.set_cons_succ]
                          refine wpAnyH_take (i := 58) (oi := { dst := some 102, op := Go.Op.move (Go.Operand.tmp 101), type := 4, pos := "law.go:58", after := #[{ on := 57, ground := Go.Ground.data }, { on := 55, ground := Go.Ground.chain }], guard := none }) (v := ?v142) rfl (by kernel_rfl) (by kernel_rfl) (by kernel_rfl) (fun _ _ _ h => h) (Or.inl ⟨by rfl, ?y142⟩) (by assumption) ?z142
                          case y142 => (intro w hSw; (try dsimp only at hSw); go_simp) <;> with_reducible rfl
                          try simp only [Act.put, List.setIfInBounds_toArray, List.set_cons_zero, List.set_cons_succ]
                          refine wpAnyH_take (i := 59) (oi := { dst := some 103, op := Go.Op.load 26 (Go.Operand.tmp 12), type := 26, pos := "law.go:58", after := #[{ on := 58, ground := Go.Ground.guard }], guard := some (58, true) }) (v := ?v143) rfl (by kernel_rfl) (by kernel_rfl) (by kernel_rfl) (fun _ _ _ h => h) (Or.inl ⟨by rfl, ?y143⟩) (by assumption) ?z143
                          case y143 => (intro w hSw; (try dsimp only at hSw); go_simp) <;> with_reducible rfl
                          try simp only [Act.put, List.setIfInBounds_toArray, List.set_cons_zero, List.set_cons_succ]
                          refine wpAnyH_take (i := 60) (oi := { dst := some 104, op := Go.Op.move (Go.Operand.tmp 11), type := 22, pos := "law.go:58", after := #[{ on := 58, ground := Go.Ground.guard }], guard := some (58, true) }) (v := ?v144) rfl (by kernel_rfl) (by kernel_rfl) (by kernel_rfl) (fun _ _ _ h => h) (Or.inl ⟨by rfl, ?y144⟩) (by assumption) ?z144
                          case y144 => (intro w hSw; (try dsimp only at hSw); go_simp) <;> with_reducible rfl
                          try simp only [Act.put, List.setIfInBounds_toArray, List.set_cons_zero, List.set_cons_succ]
                          refine wpAnyH_take (i := 61) (oi := { dst := some 105, op := Go.Op.move (Go.Operand.tmp 15), type := 3, pos := "law.go:58", after := #[{ on := 58, ground := Go.Ground.guard }], guard := some (58, true) }) (v := ?v145) rfl (by kernel_rfl) (by kernel_rfl) (by kernel_rfl) (fun _ _ _ h => h) (Or.inl ⟨by rfl, ?y145⟩) (by assumption) ?z145
                          case y145 => (intro w hSw; (try dsimp only at hSw); go_simp) <;> with_reducible rfl
                          try simp only [Act.put, List.setIfInBounds_toArray, List.set_cons_zero, List.set_cons_succ]
                          refine wpAnyH_take (i := 62) (oi := { dst := some 106, op := Go.Op.binOp Go.BinOp.add 3 (Go.Operand.tmp 105) (Go.Operand.const (Go.Value.int Go.IntKind.i64 256)) 3, type := 3, pos := "law.go:58", after := #[{ on := 61, ground := Go.Ground.data }, { on := 58, ground := Go.Ground.guard }], guard := some (58, true) }) (v := ?v146) rfl (by kernel_rfl) (by kernel_rfl) (by kernel_rfl) (fun _ _ _ h => h) (Or.inl ⟨by rfl, ?y146⟩) (by assumption) ?z146
                          case y146 => (intro w hSw; (try dsimp only at hSw); go_simp) <;> with_reducible rfl
                          try simp only [Act.put, List.setIfInBounds_toArray, List.set_cons_zero, List.set_cons_succ]
                          refine wpAnyH_take (i := 63) (oi := { dst := some 107, op := Go.Op.move (Go.Operand.tmp 16), type := 3, pos := "law.go:58", after := #[{ on := 58, ground := Go.Ground.guard }], guard := some (58, true) }) (v := ?v147) rfl (by kernel_rfl) (by kernel_rfl) (by kernel_rfl) (fun _ _ _ h => h) (Or.inl ⟨by rfl, ?y147⟩) (by assumption) ?z147
                          case y147 => (intro w hSw; (try dsimp only at hSw); go_simp) <;> with_reducible rfl
                          try simp only [Act.put, List.setIfInBounds_toArray, List.set_cons_zero, List.set_cons_succ]
                          refine wpAnyH_take (i := 65) (oi := { dst := some 109, op := Go.Op.load 26 (Go.Operand.tmp 12), type := 26, pos := "law.go:58", after := #[{ on := 58, ground := Go.Ground.guard }], guard := some (58, true) }) (v := ?v148) rfl (by kernel_rfl) (by kernel_rfl) (by kernel_rfl) (fun _ _ _ h => h) (Or.inl ⟨by rfl, ?y148⟩) (by assumption) ?z148
                          case y148 => (intro w hSw; (try dsimp only at hSw); go_simp) <;> with_reducible rfl
                          try simp only [Act.put, List.setIfInBounds_toArray, List.set_cons_zero, List.set_cons_succ]
                          refine wpAnyH_take (i := 66) (oi := { dst := some 110, op := Go.Op.move (Go.Operand.tmp 11), type := 22, pos := "law.go:58", after := #[{ on := 58, ground := Go.Ground.guard }], guard := some (58, true) }) (v := ?v149) rfl (by kernel_rfl) (by kernel_rfl) (by kernel_rfl) (fun _ _ _ h => h) (Or.inl ⟨by rfl, ?y149⟩) (by assumption) ?z149
                          case y149 => (intro w hSw; (try dsimp only at hSw); go_simp) <;> with_reducible rfl
                          try simp only [Act.put, List.setIfInBounds_toArray, List.set_cons_zero, List.set_cons_succ]
                          refine wpAnyH_take (i := 67) (oi := { dst := some 111, op := Go.Op.move (Go.Operand.tmp 15), type := 3, pos := "law.go:58", after := #[{ on := 58, ground := Go.Ground.guard }], guard := some (58, true) }) (v := ?v150) rfl (by kernel_rfl) (by kernel_rfl) (by kernel_rfl) (fun _ _ _ h => h) (Or.inl ⟨by rfl, ?y150⟩) (by assumption) ?z150
                          case y150 => (intro w hSw; (try dsimp only at hSw); go_simp) <;> with_reducible rfl
                          try simp only [Act.put, List.setIfInBounds_toArray, List.set_cons_zero, List.set_cons_succ]
                          refine wpAnyH_take (i := 68) (oi := { dst := some 112, op := Go.Op.move (Go.Operand.tmp 16), type := 3, pos := "law.go:58", after := #[{ on := 58, ground := Go.Ground.guard }], guard := some (58, true) }) (v := ?v151) rfl (by kernel_rfl) (by kernel_rfl) (by kernel_rfl) (fun _ _ _ h => h) (Or.inl ⟨by rfl, ?y151⟩) (by assumption) ?z151
                          case y151 => (intro w hSw; (try dsimp only at hSw); go_simp) <;> with_reducible rfl
                          try simp only [Act.put, List.setIfInBounds_toArray, List.set_cons_zero, List.set_cons_succ]
                          refine wpAnyH_ready (rs := [64]) (by kernel_rfl) (by simp) ?_
                          refine (AllReadyH.cons (o := { dst := some 108, op := Go.Op.call { callee := Go.Callee.value (Go.Operand.func 19), args := #[Go.Operand.tmp 103, Go.Operand.tmp 104, Go.Operand.tmp 106, Go.Operand.tmp 107], argTypes := #[26, 22, 3, 3] }, type := 5, pos := "law.go:58", after := #[{ on := 59, ground := Go.Ground.data }, { on := 60, ground := Go.Ground.data }, { on := 62, ground := Go.Ground.data }, { on := 63, ground := Go.Ground.data }, { on := 58, ground := Go.Ground.chain }, { on := 58, ground := Go.Ground.guard }], guard := some (58, true) }) rfl (fun K hK => ?_) AllReadyH.nil)
                          · skip
                            go_simp
                            with_reducible refine (W1.out _ (HM1.out.at HN.out B19.out)).mono ?_
                            rintro q_ u20 ⟨rfl, hb⟩
                            have B20 := Lib.hid (vian HN.out B19.out hb)
                            have P20 := Lib.hid (P19.out.below hb)
                            have Q20 := Lib.hid (Q19.out.below hb)
                            have C20 := Lib.hid (C19.out.below hb)
                            have A20 := Lib.hid (A19.out.below hb)
                            clear hb B19 P19 Q19 C19 A19
                            refine hK.out _ _ ?s152 (fun hNew => ?r152)
                            case s152 => exact ⟨A20.out.2.1, Q20.out.2.1, C20.out.2.1⟩
                            clear hK K hHeld
                            have hHeld := hNew
                            clear hNew
                            refine wpAnyH_ready (rs := [69]) (by kernel_rfl) (by simp) ?_
                            refine (AllReadyH.cons (o := { dst := some 113, op := Go.Op.call { callee := Go.Callee.value (Go.Operand.func 19), args := #[Go.Operand.tmp 109, Go.Operand.tmp 110, Go.Operand.tmp 111, Go.Operand.tmp 112], argTypes := #[26, 22, 3, 3] }, type := 5, pos := "law.go:58", after := #[{ on := 65, ground := Go.Ground.data }, { on := 66, ground := Go.Ground.data }, { on := 67, ground := Go.Ground.data }, { on := 68, ground := Go.Ground.data }, { on := 64, ground := Go.Ground.chain }, { on := 58, ground := Go.Ground.guard }], guard := some (58, true) }) rfl (fun K hK => ?_) AllReadyH.nil)
                            · skip
                              go_simp
                              with_reducible refine (W2.out _ (HM1.out.at HN.out B20.out)).mono ?_
                              rintro q_ u21 ⟨rfl, hb⟩
                              have B21 := Lib.hid (vian HN.out B20.out hb)
                              have P21 := Lib.hid (P20.out.below hb)
                              have Q21 := Lib.hid (Q20.out.below hb)
                              have C21 := Lib.hid (C20.out.below hb)
                              have A21 := Lib.hid (A20.out.below hb)
                              clear hb B20 P20 Q20 C20 A20
                              refine hK.out _ _ ?s153 (fun hNew => ?r153)
                              case s153 => exact ⟨A21.out.2.1, Q21.out.2.1, C21.out.2.1⟩
                              clear hK K hHeld
                              have hHeld := hNew
                              clear hNew
                              refine wpAnyH_take (i := 70) (oi := { dst := some 114, op := Go.Op.binOp Go.BinOp.eql 5 (Go.Operand.tmp 108) (Go.Operand.tmp 113) 5, type := 4, pos := "law.go:58", after := #[{ on := 64, ground := Go.Ground.data }, { on := 69, ground := Go.Ground.data }, { on := 58, ground := Go.Ground.guard }], guard := some (58, true) }) (v := ?v154) rfl (by kernel_rfl) (by kernel_rfl) (by kernel_rfl) (fun _ _ _ h => h) (Or.inl ⟨by rfl, ?y154⟩) (by assumption) ?z154
                              case y154 => (intro w hSw; (try dsimp only at hSw); go_simp) <;> with_reducible rfl
                              try simp only [Act.put, List.setIfInBounds_toArray, List.set_cons_zero, List.set_cons_succ]
                              refine wpAnyH_take (i := 71) (oi := { dst := some 115, op := Go.Op.pick (Go.Operand.tmp 102) (Go.Operand.tmp 114) (Go.Operand.const (Go.Value.bool false)), type := 4, pos := "law.go:58", after := #[{ on := 58, ground := Go.Ground.data }, { on := 70, ground := Go.Ground.data }], guard := none }) (v := ?v155) rfl (by kernel_rfl) (by kernel_rfl) (by kernel_rfl) (fun _ _ _ h => h) (Or.inl ⟨by rfl, ?y155⟩) (by assumption) ?z155
                              case y155 => (intro w hSw; (try dsimp only at hSw); go_simp) <;> with_reducible rfl
                              try simp only [Act.put, List.setIfInBounds_toArray, List.set_cons_zero, List.set_cons_succ]
                              refine wpAnyH_take (i := 72) (oi := { dst := some 10, op := Go.Op.assign (Go.Operand.tmp 115), type := 4, pos := "law.go:58", after := #[{ on := 71, ground := Go.Ground.data }, { on := 69, ground := Go.Ground.chain }, { on := 0, ground := Go.Ground.phase }, { on := 1, ground := Go.Ground.phase }, { on := 2, ground := Go.Ground.phase }, { on := 3, ground := Go.Ground.phase }, { on := 4, ground := Go.Ground.phase }, { on := 5, ground := Go.Ground.phase }, { on := 6, ground := Go.Ground.phase }, { on := 7, ground := Go.Ground.phase }, { on := 8, ground := Go.Ground.phase }, { on := 9, ground := Go.Ground.phase }, { on := 10, ground := Go.Ground.phase }, { on := 11, ground := Go.Ground.phase }, { on := 12, ground := Go.Ground.phase }, { on := 13, ground := Go.Ground.phase }, { on := 14, ground := Go.Ground.phase }, { on := 15, ground := Go.Ground.phase }, { on := 16, ground := Go.Ground.phase }, { on := 17, ground := Go.Ground.phase }, { on := 18, ground := Go.Ground.phase }, { on := 19, ground := Go.Ground.phase }, { on := 20, ground := Go.Ground.phase }, { on := 21, ground := Go.Ground.phase }, { on := 22, ground := Go.Ground.phase }, { on := 23, ground := Go.Ground.phase }, { on := 24, ground := Go.Ground.phase }, { on := 25, ground := Go.Ground.phase }, { on := 26, ground := Go.Ground.phase }, { on := 27, ground := Go.Ground.phase }, { on := 28, ground := Go.Ground.phase }, { on := 29, ground := Go.Ground.phase }, { on := 30, ground := Go.Ground.phase }, { on := 31, ground := Go.Ground.phase }, { on := 32, ground := Go.Ground.phase }, { on := 33, ground := Go.Ground.phase }, { on := 34, ground := Go.Ground.phase }, { on := 35, ground := Go.Ground.phase }, { on := 36, ground := Go.Ground.phase }, { on := 37, ground := Go.Ground.phase }, { on := 38, ground := Go.Ground.phase }, { on := 39, ground := Go.Ground.phase }, { on := 40, ground := Go.Ground.phase }, { on := 41, ground := Go.Ground.phase }, { on := 42, ground := Go.Ground.phase }, { on := 43, ground := Go.Ground.phase }, { on := 44, ground := Go.Ground.phase }, { on := 45, ground := Go.Ground.phase }, { on := 46, ground := Go.Ground.phase }, { on := 47, ground := Go.Ground.phase }, { on := 48, ground := Go.Ground.phase }, { on := 49, ground := Go.Ground.phase }, { on := 50, ground := Go.Ground.phase }, { on := 51, ground := Go.Ground.phase }, { on := 52, ground := Go.Ground.phase }, { on := 53, ground := Go.Ground.phase }, { on := 54, ground := Go.Ground.phase }, { on := 55, ground := Go.Ground.phase }, { on := 56, ground := Go.Ground.phase }, { on := 57, ground := Go.Ground.phase }, { on := 58, ground := Go.Ground.phase }, { on := 59, ground := Go.Ground.phase }, { on := 60, ground := Go.Ground.phase }, { on := 61, ground := Go.Ground.phase }, { on := 62, ground := Go.Ground.phase }, { on := 63, ground := Go.Ground.phase }, { on := 64, ground := Go.Ground.phase }, { on := 65, ground := Go.Ground.phase }, { on := 66, ground := Go.Ground.phase }, { on := 67, ground := Go.Ground.phase }, { on := 68, ground := Go.Ground.phase }, { on := 69, ground := Go.Ground.phase }, { on := 70, ground := Go.Ground.phase }, { on := 71, ground := Go.Ground.phase }], guard := none }) (v := ?v156) rfl (by kernel_rfl) (by kernel_rfl) (by kernel_rfl) (fun _ _ _ h => h) (Or.inl ⟨by rfl, ?y156⟩) (by assumption) ?z156
                              case y156 => (intro w hSw; (try dsimp only at hSw); go_simp) <;> with_reducible rfl
                              try simp only [Act.put, List.setIfInBounds_toArray, List.set_cons_zero, List.set_cons_succ]
                              refine wpAnyH_done (by kernel_rfl) ?_ _
                              clear hHeld
                              go_wp2_with (fail)
                              all_goals exact bodyPost_ret (v := .bool true) (by simp [results, Try.results6, go_sem]) rfl ⟨rfl, ZF.out _ B21.out⟩
theorem scroll_walk (c sx sy wx wy : Int) (c0 : 0 ≤ c) (c1 : c < 256) (sx0 : 0 ≤ sx) (sx1 : sx < 256) (sy0 : 0 ≤ sy) (sy1 : sy < 256) (wx0 : 0 ≤ wx) (wx1 : wx < 256) (wy0 : 0 ≤ wy) (wy1 : wy < 256) (b : Value) (bb x y : Int) (bb0 : 0 ≤ bb) (bb1 : bb < 256) (x0 : 0 ≤ x) (x1 : x < 256) (y0 : 0 ≤ y) (y1 : y < 256) (w : World) (hin : MemIn w b) : Calls Try.prog 6 #[b, .agg #[.int .u8 c, .int .u8 sx, .int .u8 sy, .int .u8 wx, .int .u8 wy], .int .u8 bb, .int .u8 x, .int .u8 y] w fun q_ w' => q_ = .returned (.bool true) ∧ Below w.heap.size w w' := by
  obtain ⟨a, n, cp, rfl, h1, h2⟩ := hin
  by_cases h : 3000 < n
  · exact scroll_long c sx sy wx wy c0 c1 sx0 sx1 sy0 sy1 wx0 wx1 wy0 wy1 a n cp bb x y bb0 bb1 x0 x1 y0 y1 h w
  · obtain ⟨F, hF⟩ := h2 (by omega)
    exact scroll_short c sx sy wx wy c0 c1 sx0 sx1 sy0 sy1 wx0 wx1 wy0 wy1 a n cp F bb x y bb0 bb1 x0 x1 y0 y1 (by omega) w hF
end Go.Proofs.Ytgoagcombkamkaa
