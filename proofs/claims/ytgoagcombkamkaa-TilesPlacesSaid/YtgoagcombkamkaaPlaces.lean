/-
  The walk through TilesPlaces: for every memory, view and place.
-/
import Derived.Test.YtgoagcombkamkaaOpn
import Derived.Deep.Cut
import Derived.BigQuiet
import Derived.WalkSmall
namespace Go.Proofs.Ytgoagcombkamkaa
open Go.ChangeShapes Go.WideShapes Go.ChangeAt Go.RowKit
set_option linter.unusedVariables false
set_option linter.unusedSimpArgs false
set_option maxRecDepth 100000
set_option maxHeartbeats 2000000 in
theorem places_long (c sx sy wx wy : Int) (c0 : 0 ≤ c) (c1 : c < 256) (sx0 : 0 ≤ sx) (sx1 : sx < 256) (sy0 : 0 ≤ sy) (sy1 : sy < 256) (wx0 : 0 ≤ wx) (wx1 : wx < 256) (wy0 : 0 ≤ wy) (wy1 : wy < 256) (a : Option Addr) (n cp : Nat) (x y : Int) (x0 : -9223372036854775808 ≤ x) (x1 : x ≤ 9223372036854775807) (y0 : -9223372036854775808 ≤ y) (y1 : y ≤ 9223372036854775807) (h : 3000 < n) (w : World) : Calls Try.prog 4 #[.slice a n cp, .agg #[.int .u8 c, .int .u8 sx, .int .u8 sy, .int .u8 wx, .int .u8 wy], .int .i64 x, .int .i64 y] w fun q_ w' => q_ = .returned (.bool true) ∧ Below w.heap.size w w' := by
  suffices hall : ∀ (n_ : Nat) (W0 : World), n_ ≤ W0.heap.size → Below n_ W0 w → Calls Try.prog 4 #[.slice a n cp, .agg #[.int .u8 c, .int .u8 sx, .int .u8 sy, .int .u8 wx, .int .u8 wy], .int .i64 x, .int .i64 y] w fun q_ w' => q_ = .returned (.bool true) ∧ Below n_ W0 w' from hall _ _ (Nat.le_refl _) (Below.refl _ _)
  intro n_ W0 hn hB
  have HN := Lib.hid hn
  have BB := Lib.hid hB
  clear hn hB
  have AW := Lib.hid awake_c
  have hnot : ∀ (x : Bool) (w : World), (Op.unary .not (.bool x)).run Try.prog w = .ok (.bool (!x)) w := fun _ _ => rfl
  have hI : (3000 : Int) < n := by omega
  go_enter Try.func4, Try.ntmps4
  have Q_ := own1 w (.cells #[.int .u8 c, .int .u8 sx, .int .u8 sy, .int .u8 wx, .int .u8 wy] 24)
  have B0 := Lib.hid (vian HN.out BB.out Q_)
  have P0 := Lib.hid (show Has (w.alloc (.cells #[.int .u8 c, .int .u8 sx, .int .u8 sy, .int .u8 wx, .int .u8 wy] 24)) w.heap.size #[.int .u8 c, .int .u8 sx, .int .u8 sy, .int .u8 wx, .int .u8 wy] by simpa using Has.new w #[.int .u8 c, .int .u8 sx, .int .u8 sy, .int .u8 wx, .int .u8 wy] 24)
  have LP := Lib.hid (show n_ ≤ w.heap.size + 0 from Nat.le_add_right_of_le (Nat.le_trans HN.out BB.out.size))
  simp only [Nat.add_zero] at LP
  clear Q_
  go_upto_region 1 with (fail)
  generalize (w.alloc (.cells #[.int .u8 c, .int .u8 sx, .int .u8 sy, .int .u8 wx, .int .u8 wy] 24)) = u0 at B0 P0 ⊢
  generalize w.heap.size = pb at P0 LP  ⊢
  go_wp2_with (fail)
  with_reducible refine (AW.out _).mono ?_
  rintro q_ u1 ⟨rfl, hb⟩
  have B1 := Lib.hid (vian HN.out B0.out hb)
  have P1 := Lib.hid (P0.out.below hb)
  clear hb B0 P0
  go_wp2_with (fail)
  with_reducible refine (AW.out _).mono ?_
  rintro q_ u2 ⟨rfl, hb⟩
  have B2 := Lib.hid (vian HN.out B1.out hb)
  have P2 := Lib.hid (P1.out.below hb)
  clear hb B1 P1
  go_wp2_with (fail)
  all_goals exact bodyPost_ret (v := .bool true) (by simp [results, Try.results4, go_sem]) rfl ⟨rfl, B2.out⟩
set_option maxHeartbeats 8000000 in
theorem places_short (c sx sy wx wy : Int) (c0 : 0 ≤ c) (c1 : c < 256) (sx0 : 0 ≤ sx) (sx1 : sx < 256) (sy0 : 0 ≤ sy) (sy1 : sy < 256) (wx0 : 0 ≤ wx) (wx1 : wx < 256) (wy0 : 0 ≤ wy) (wy1 : wy < 256) (a : Option Addr) (n cp : Nat) (F : M) (x y : Int) (x0 : -9223372036854775808 ≤ x) (x1 : x ≤ 9223372036854775807) (y0 : -9223372036854775808 ≤ y) (y1 : y ≤ 9223372036854775807) (h : n ≤ 3000) (w : World) (hM0 : Mem w (.slice a n cp) F) : Calls Try.prog 4 #[.slice a n cp, .agg #[.int .u8 c, .int .u8 sx, .int .u8 sy, .int .u8 wx, .int .u8 wy], .int .i64 x, .int .i64 y] w fun q_ w' => q_ = .returned (.bool true) ∧ Below w.heap.size w w' := by
  suffices hall : ∀ (n_ : Nat) (W0 : World), n_ ≤ W0.heap.size → Below n_ W0 w → MemB n_ W0 (.slice a n cp) F → Calls Try.prog 4 #[.slice a n cp, .agg #[.int .u8 c, .int .u8 sx, .int .u8 sy, .int .u8 wx, .int .u8 wy], .int .i64 x, .int .i64 y] w fun q_ w' => q_ = .returned (.bool true) ∧ Below n_ W0 w' from hall _ _ (Nat.le_refl _) (Below.refl _ _) hM0
  clear hM0
  intro n_ W0 hn hB hM0
  have HN := Lib.hid hn
  have BB := Lib.hid hB
  clear hn hB
  have HM0 := Lib.hid hM0
  clear hM0
  have AW := Lib.hid awake_c
  have hnot : ∀ (x : Bool) (w : World), (Op.unary .not (.bool x)).run Try.prog w = .ok (.bool (!x)) w := fun _ _ => rfl
  have hI : ¬ (3000 : Int) < n := by omega
  go_enter Try.func4, Try.ntmps4
  have Q_ := own1 w (.cells #[.int .u8 c, .int .u8 sx, .int .u8 sy, .int .u8 wx, .int .u8 wy] 24)
  have B0 := Lib.hid (vian HN.out BB.out Q_)
  have P0 := Lib.hid (show Has (w.alloc (.cells #[.int .u8 c, .int .u8 sx, .int .u8 sy, .int .u8 wx, .int .u8 wy] 24)) w.heap.size #[.int .u8 c, .int .u8 sx, .int .u8 sy, .int .u8 wx, .int .u8 wy] by simpa using Has.new w #[.int .u8 c, .int .u8 sx, .int .u8 sy, .int .u8 wx, .int .u8 wy] 24)
  have LP := Lib.hid (show n_ ≤ w.heap.size + 0 from Nat.le_add_right_of_le (Nat.le_trans HN.out BB.out.size))
  simp only [Nat.add_zero] at LP
  clear Q_
  go_upto_region 1 with (fail)
  generalize (w.alloc (.cells #[.int .u8 c, .int .u8 sx, .int .u8 sy, .int .u8 wx, .int .u8 wy] 24)) = u0 at B0 P0 ⊢
  generalize w.heap.size = pb at P0 LP  ⊢
  go_wp2_with (fail)
  with_reducible refine (AW.out _).mono ?_
  rintro q_ u1 ⟨rfl, hb⟩
  have B1 := Lib.hid (vian HN.out B0.out hb)
  have P1 := Lib.hid (P0.out.below hb)
  clear hb B0 P0
  have Q_ := own1 u1 (.cells #[.int .u8 c, .int .u8 sx, .int .u8 sy, .int .u8 wx, .int .u8 wy] 26)
  have B2 := Lib.hid (vian HN.out B1.out Q_)
  have P2 := Lib.hid (P1.out.below Q_)
  have Q2 := Lib.hid (Has.new u1 #[.int .u8 c, .int .u8 sx, .int .u8 sy, .int .u8 wx, .int .u8 wy] 26)
  have LQ := Lib.hid (Nat.le_trans HN.out B1.out.size)
  have NPQ := Lib.hid (Nat.ne_of_lt P1.out.1)
  clear Q_
  obtain ⟨hc0, hf0⟩ := P1.out.out
  go_upto_region 4 with (fail)
  clear hc0 hf0
  generalize u1.alloc (.cells #[.int .u8 c, .int .u8 sx, .int .u8 sy, .int .u8 wx, .int .u8 wy] 26) = u2 at B2 P2 Q2 ⊢
  generalize u1.heap.size = qb at Q2 LQ NPQ ⊢
  clear B1 P1
  go_wp2_with (fail)
  with_reducible refine (filled_m a n cp F _ (HM0.out.at HN.out B2.out)).mono ?_
  rintro q_ u3 ⟨sv, rfl, hm, hb⟩
  have hb3 := vian HN.out B2.out hb
  have hm0 := (HM0.out.at HN.out B2.out).at (Nat.le_refl _) hb
  have P3 := Lib.hid (P2.out.below hb)
  have Q3 := Lib.hid (Q2.out.below hb)
  have QF := Lib.hid (show ∀ w', Below u3.heap.size u3 w' → Below n_ W0 w' from fun w' h => vian HN.out hb3 h)
  have ZN := Lib.hid (show n_ ≤ u3.heap.size from Nat.le_trans HN.out hb3.size)
  obtain ⟨n3, V3, hn3, b3, m0, m1, z3⟩ : ∃ (n3 : Nat) (V3 : World), n3 ≤ V3.heap.size ∧ Below n3 V3 u3 ∧ MemB n3 V3 (.slice a n cp) F ∧ MemB n3 V3 sv (filledV F n) ∧ (∀ w', Below n3 V3 w' → Below n_ W0 w') := ⟨u3.heap.size, u3, Nat.le_refl _, Below.refl _ _, hm0, hm, QF.out⟩
  have HN := Lib.hid hn3
  have B3 := Lib.hid b3
  have HM0 := Lib.hid m0
  have HM1 := Lib.hid m1
  have ZF := Lib.hid z3
  clear hm hb hb3 hm0 hn3 b3 m0 m1 z3 QF ZN B2 P2 Q2
  obtain ⟨G, hG⟩ : ∃ G, G = filledV F n := ⟨_, rfl⟩
  rw [← hG] at HM1
  clear hG
  have D1 := Lib.hid (fun W h => back_c c sx sy wx wy c0 c1 sx0 sx1 sy0 sy1 wx0 wx1 wy0 wy1 (.slice a n cp) F x y x0 x1 y0 y1 W h)
  have D2 := Lib.hid (fun W h => rback_c c sx sy wx wy c0 c1 sx0 sx1 sy0 sy1 wx0 wx1 wy0 wy1 (.slice a n cp) F x y x0 x1 y0 y1 W h)
  have E1 := Lib.hid (fun W h => back_c c sx sy wx wy c0 c1 sx0 sx1 sy0 sy1 wx0 wx1 wy0 wy1 sv G x y x0 x1 y0 y1 W h)
  have E2 := Lib.hid (fun W h => rback_c c sx sy wx wy c0 c1 sx0 sx1 sy0 sy1 wx0 wx1 wy0 wy1 sv G x y x0 x1 y0 y1 W h)
  have W1 := Lib.hid (fun W h => win_c c sx sy wx wy c0 c1 sx0 sx1 sy0 sy1 wx0 wx1 wy0 wy1 sv G x y x0 x1 y0 y1 W h)
  have W2 := Lib.hid (fun W h => rwin_c c sx sy wx wy c0 c1 sx0 sx1 sy0 sy1 wx0 wx1 wy0 wy1 sv G x y x0 x1 y0 y1 W h)
  obtain ⟨d, hd⟩ : ∃ q_, q_ = backV F c sx sy x y := ⟨_, rfl⟩
  obtain ⟨e, he⟩ : ∃ q_, q_ = backV G c sx sy x y := ⟨_, rfl⟩
  obtain ⟨g, hg⟩ : ∃ q_, q_ = winV G c x y := ⟨_, rfl⟩
  rw [← hd] at D1 D2
  rw [← he] at E1 E2
  rw [← hg] at W1 W2
  clear hd he hg
  go_upto_region 5 with (fail)
  have B4 := Lib.hid B3.out.drew
  have P4 := Lib.hid P3.out.drew
  have Q4 := Lib.hid Q3.out.drew
  clear B3 P3 Q3
  refine wp_region_held_drew (S := (fun w' => (∀ o, w'.cell? ⟨pb, o, none⟩ = (#[.int .u8 c, .int .u8 sx, .int .u8 sy, .int .u8 wx, .int .u8 wy])[o]?) ∧ (∀ o, w'.cell? ⟨qb, o, none⟩ = (#[.int .u8 c, .int .u8 sx, .int .u8 sy, .int .u8 wx, .int .u8 wy])[o]?))) (by kernel_rfl) ⟨P4.out.2.1, Q4.out.2.1⟩ (fun hHeld => ?_)
  generalize World.drew _ = u4 at hHeld B4 P4 Q4 ⊢
  refine wpAnyH_take (i := 0) (oi := { dst := some 22, op := Go.Op.load 26 (Go.Operand.tmp 9), type := 26, pos := "law.go:34", after := #[], guard := none }) (v := ?v1) rfl (by kernel_rfl) (by kernel_rfl) (by kernel_rfl) (fun _ _ _ h => h) (Or.inl ⟨by rfl, ?y1⟩) (by assumption) ?z1
  case y1 => (intro w hSw; (try dsimp only at hSw); go_simp) <;> with_reducible rfl
  try simp only [Act.put, List.setIfInBounds_toArray, List.set_cons_zero, List.set_cons_succ]
  refine wpAnyH_take (i := 1) (oi := { dst := some 23, op := Go.Op.move (Go.Operand.tmp 10), type := 22, pos := "law.go:34", after := #[], guard := none }) (v := ?v2) rfl (by kernel_rfl) (by kernel_rfl) (by kernel_rfl) (fun _ _ _ h => h) (Or.inl ⟨by rfl, ?y2⟩) (by assumption) ?z2
  case y2 => (intro w hSw; (try dsimp only at hSw); go_simp) <;> with_reducible rfl
  try simp only [Act.put, List.setIfInBounds_toArray, List.set_cons_zero, List.set_cons_succ]
  refine wpAnyH_take (i := 2) (oi := { dst := some 24, op := Go.Op.move (Go.Operand.tmp 2), type := 3, pos := "law.go:34", after := #[], guard := none }) (v := ?v3) rfl (by kernel_rfl) (by kernel_rfl) (by kernel_rfl) (fun _ _ _ h => h) (Or.inl ⟨by rfl, ?y3⟩) (by assumption) ?z3
  case y3 => (intro w hSw; (try dsimp only at hSw); go_simp) <;> with_reducible rfl
  try simp only [Act.put, List.setIfInBounds_toArray, List.set_cons_zero, List.set_cons_succ]
  refine wpAnyH_take (i := 3) (oi := { dst := some 25, op := Go.Op.move (Go.Operand.tmp 3), type := 3, pos := "law.go:34", after := #[], guard := none }) (v := ?v4) rfl (by kernel_rfl) (by kernel_rfl) (by kernel_rfl) (fun _ _ _ h => h) (Or.inl ⟨by rfl, ?y4⟩) (by assumption) ?z4
  case y4 => (intro w hSw; (try dsimp only at hSw); go_simp) <;> with_reducible rfl
  try simp only [Act.put, List.setIfInBounds_toArray, List.set_cons_zero, List.set_cons_succ]
  refine wpAnyH_take (i := 5) (oi := { dst := some 27, op := Go.Op.load 24 (Go.Operand.tmp 5), type := 24, pos := "law.go:34", after := #[], guard := none }) (v := ?v5) rfl (by kernel_rfl) (by kernel_rfl) (by kernel_rfl) (fun _ _ _ h => h) (Or.inl ⟨by rfl, ?y5⟩) (by assumption) ?z5
  case y5 => (intro w hSw; (try dsimp only at hSw); go_simp) <;> with_reducible rfl
  try simp only [Act.put, List.setIfInBounds_toArray, List.set_cons_zero, List.set_cons_succ]
  refine wpAnyH_take (i := 6) (oi := { dst := some 28, op := Go.Op.move (Go.Operand.tmp 10), type := 22, pos := "law.go:34", after := #[], guard := none }) (v := ?v6) rfl (by kernel_rfl) (by kernel_rfl) (by kernel_rfl) (fun _ _ _ h => h) (Or.inl ⟨by rfl, ?y6⟩) (by assumption) ?z6
  case y6 => (intro w hSw; (try dsimp only at hSw); go_simp) <;> with_reducible rfl
  try simp only [Act.put, List.setIfInBounds_toArray, List.set_cons_zero, List.set_cons_succ]
  refine wpAnyH_take (i := 7) (oi := { dst := some 29, op := Go.Op.move (Go.Operand.tmp 2), type := 3, pos := "law.go:34", after := #[], guard := none }) (v := ?v7) rfl (by kernel_rfl) (by kernel_rfl) (by kernel_rfl) (fun _ _ _ h => h) (Or.inl ⟨by rfl, ?y7⟩) (by assumption) ?z7
  case y7 => (intro w hSw; (try dsimp only at hSw); go_simp) <;> with_reducible rfl
  try simp only [Act.put, List.setIfInBounds_toArray, List.set_cons_zero, List.set_cons_succ]
  refine wpAnyH_take (i := 8) (oi := { dst := some 30, op := Go.Op.move (Go.Operand.tmp 3), type := 3, pos := "law.go:34", after := #[], guard := none }) (v := ?v8) rfl (by kernel_rfl) (by kernel_rfl) (by kernel_rfl) (fun _ _ _ h => h) (Or.inl ⟨by rfl, ?y8⟩) (by assumption) ?z8
  case y8 => (intro w hSw; (try dsimp only at hSw); go_simp) <;> with_reducible rfl
  try simp only [Act.put, List.setIfInBounds_toArray, List.set_cons_zero, List.set_cons_succ]
  refine wpAnyH_ready (rs := [4]) (by kernel_rfl) (by simp) ?_
  refine (AllReadyH.cons (o := { dst := some 26, op := Go.Op.call { callee := Go.Callee.value (Go.Operand.func 17), args := #[Go.Operand.tmp 22, Go.Operand.tmp 23, Go.Operand.tmp 24, Go.Operand.tmp 25], argTypes := #[26, 22, 3, 3] }, type := 5, pos := "law.go:34", after := #[{ on := 0, ground := Go.Ground.data }, { on := 1, ground := Go.Ground.data }, { on := 2, ground := Go.Ground.data }, { on := 3, ground := Go.Ground.data }], guard := none }) rfl (fun K hK => ?_) AllReadyH.nil)
  · skip
    go_simp
    with_reducible refine (E1.out _ (HM1.out.at HN.out B4.out)).mono ?_
    rintro q_ u5 ⟨rfl, hb⟩
    have B5 := Lib.hid (vian HN.out B4.out hb)
    have P5 := Lib.hid (P4.out.below hb)
    have Q5 := Lib.hid (Q4.out.below hb)
    clear hb
    clear B4 P4 Q4
    refine hK.out _ _ ?s9 (fun hNew => ?r9)
    case s9 => exact ⟨P5.out.2.1, Q5.out.2.1⟩
    clear hK K hHeld
    have hHeld := hNew
    clear hNew
    refine wpAnyH_ready (rs := [9]) (by kernel_rfl) (by simp) ?_
    refine (AllReadyH.cons (o := { dst := some 31, op := Go.Op.call { callee := Go.Callee.value (Go.Operand.func 18), args := #[Go.Operand.tmp 27, Go.Operand.tmp 28, Go.Operand.tmp 29, Go.Operand.tmp 30], argTypes := #[24, 22, 3, 3] }, type := 5, pos := "law.go:34", after := #[{ on := 5, ground := Go.Ground.data }, { on := 6, ground := Go.Ground.data }, { on := 7, ground := Go.Ground.data }, { on := 8, ground := Go.Ground.data }, { on := 4, ground := Go.Ground.chain }], guard := none }) rfl (fun K hK => ?_) AllReadyH.nil)
    · skip
      go_simp
      with_reducible refine (E2.out _ (HM1.out.at HN.out B5.out)).mono ?_
      rintro q_ u6 ⟨rfl, hb⟩
      have B6 := Lib.hid (vian HN.out B5.out hb)
      have P6 := Lib.hid (P5.out.below hb)
      have Q6 := Lib.hid (Q5.out.below hb)
      clear hb
      clear B5 P5 Q5
      refine hK.out _ _ ?s10 (fun hNew => ?r10)
      case s10 => exact ⟨P6.out.2.1, Q6.out.2.1⟩
      clear hK K hHeld
      have hHeld := hNew
      clear hNew
      refine wpAnyH_take (i := 10) (oi := { dst := some 32, op := Go.Op.binOp Go.BinOp.eql 5 (Go.Operand.tmp 26) (Go.Operand.tmp 31) 5, type := 4, pos := "law.go:34", after := #[{ on := 4, ground := Go.Ground.data }, { on := 9, ground := Go.Ground.data }], guard := none }) (v := ?v11) rfl (by kernel_rfl) (by kernel_rfl) (by kernel_rfl) (fun _ _ _ h => h) (Or.inl ⟨by rfl, ?y11⟩) (by assumption) ?z11
      case y11 => (intro w hSw; (try dsimp only at hSw); go_simp) <;> with_reducible rfl
      try simp only [Act.put, List.setIfInBounds_toArray, List.set_cons_zero, List.set_cons_succ]
      refine wpAnyH_take (i := 11) (oi := { dst := some 33, op := Go.Op.move (Go.Operand.tmp 32), type := 4, pos := "law.go:34", after := #[{ on := 10, ground := Go.Ground.data }, { on := 9, ground := Go.Ground.chain }], guard := none }) (v := ?v12) rfl (by kernel_rfl) (by kernel_rfl) (by kernel_rfl) (fun _ _ _ h => h) (Or.inl ⟨by rfl, ?y12⟩) (by assumption) ?z12
      case y12 => (intro w hSw; (try dsimp only at hSw); go_simp) <;> with_reducible rfl
      try simp only [Act.put, List.setIfInBounds_toArray, List.set_cons_zero, List.set_cons_succ]
      refine wpAnyH_take (i := 12) (oi := { dst := some 34, op := Go.Op.load 26 (Go.Operand.tmp 9), type := 26, pos := "law.go:34", after := #[{ on := 11, ground := Go.Ground.guard }], guard := some (11, true) }) (v := ?v13) rfl (by kernel_rfl) (by kernel_rfl) (by kernel_rfl) (fun _ _ _ h => h) (Or.inl ⟨by rfl, ?y13⟩) (by assumption) ?z13
      case y13 => (intro w hSw; (try dsimp only at hSw); go_simp) <;> with_reducible rfl
      try simp only [Act.put, List.setIfInBounds_toArray, List.set_cons_zero, List.set_cons_succ]
      refine wpAnyH_take (i := 13) (oi := { dst := some 35, op := Go.Op.move (Go.Operand.tmp 10), type := 22, pos := "law.go:34", after := #[{ on := 11, ground := Go.Ground.guard }], guard := some (11, true) }) (v := ?v14) rfl (by kernel_rfl) (by kernel_rfl) (by kernel_rfl) (fun _ _ _ h => h) (Or.inl ⟨by rfl, ?y14⟩) (by assumption) ?z14
      case y14 => (intro w hSw; (try dsimp only at hSw); go_simp) <;> with_reducible rfl
      try simp only [Act.put, List.setIfInBounds_toArray, List.set_cons_zero, List.set_cons_succ]
      refine wpAnyH_take (i := 14) (oi := { dst := some 36, op := Go.Op.move (Go.Operand.tmp 2), type := 3, pos := "law.go:34", after := #[{ on := 11, ground := Go.Ground.guard }], guard := some (11, true) }) (v := ?v15) rfl (by kernel_rfl) (by kernel_rfl) (by kernel_rfl) (fun _ _ _ h => h) (Or.inl ⟨by rfl, ?y15⟩) (by assumption) ?z15
      case y15 => (intro w hSw; (try dsimp only at hSw); go_simp) <;> with_reducible rfl
      try simp only [Act.put, List.setIfInBounds_toArray, List.set_cons_zero, List.set_cons_succ]
      refine wpAnyH_take (i := 15) (oi := { dst := some 37, op := Go.Op.move (Go.Operand.tmp 3), type := 3, pos := "law.go:34", after := #[{ on := 11, ground := Go.Ground.guard }], guard := some (11, true) }) (v := ?v16) rfl (by kernel_rfl) (by kernel_rfl) (by kernel_rfl) (fun _ _ _ h => h) (Or.inl ⟨by rfl, ?y16⟩) (by assumption) ?z16
      case y16 => (intro w hSw; (try dsimp only at hSw); go_simp) <;> with_reducible rfl
      try simp only [Act.put, List.setIfInBounds_toArray, List.set_cons_zero, List.set_cons_succ]
      refine wpAnyH_take (i := 17) (oi := { dst := some 39, op := Go.Op.load 24 (Go.Operand.tmp 5), type := 24, pos := "law.go:34", after := #[{ on := 11, ground := Go.Ground.guard }], guard := some (11, true) }) (v := ?v17) rfl (by kernel_rfl) (by kernel_rfl) (by kernel_rfl) (fun _ _ _ h => h) (Or.inl ⟨by rfl, ?y17⟩) (by assumption) ?z17
      case y17 => (intro w hSw; (try dsimp only at hSw); go_simp) <;> with_reducible rfl
      try simp only [Act.put, List.setIfInBounds_toArray, List.set_cons_zero, List.set_cons_succ]
      refine wpAnyH_take (i := 18) (oi := { dst := some 40, op := Go.Op.move (Go.Operand.tmp 10), type := 22, pos := "law.go:34", after := #[{ on := 11, ground := Go.Ground.guard }], guard := some (11, true) }) (v := ?v18) rfl (by kernel_rfl) (by kernel_rfl) (by kernel_rfl) (fun _ _ _ h => h) (Or.inl ⟨by rfl, ?y18⟩) (by assumption) ?z18
      case y18 => (intro w hSw; (try dsimp only at hSw); go_simp) <;> with_reducible rfl
      try simp only [Act.put, List.setIfInBounds_toArray, List.set_cons_zero, List.set_cons_succ]
      refine wpAnyH_take (i := 19) (oi := { dst := some 41, op := Go.Op.move (Go.Operand.tmp 2), type := 3, pos := "law.go:34", after := #[{ on := 11, ground := Go.Ground.guard }], guard := some (11, true) }) (v := ?v19) rfl (by kernel_rfl) (by kernel_rfl) (by kernel_rfl) (fun _ _ _ h => h) (Or.inl ⟨by rfl, ?y19⟩) (by assumption) ?z19
      case y19 => (intro w hSw; (try dsimp only at hSw); go_simp) <;> with_reducible rfl
      try simp only [Act.put, List.setIfInBounds_toArray, List.set_cons_zero, List.set_cons_succ]
      refine wpAnyH_take (i := 20) (oi := { dst := some 42, op := Go.Op.move (Go.Operand.tmp 3), type := 3, pos := "law.go:34", after := #[{ on := 11, ground := Go.Ground.guard }], guard := some (11, true) }) (v := ?v20) rfl (by kernel_rfl) (by kernel_rfl) (by kernel_rfl) (fun _ _ _ h => h) (Or.inl ⟨by rfl, ?y20⟩) (by assumption) ?z20
      case y20 => (intro w hSw; (try dsimp only at hSw); go_simp) <;> with_reducible rfl
      try simp only [Act.put, List.setIfInBounds_toArray, List.set_cons_zero, List.set_cons_succ]
      refine wpAnyH_ready (rs := [16]) (by kernel_rfl) (by simp) ?_
      refine (AllReadyH.cons (o := { dst := some 38, op := Go.Op.call { callee := Go.Callee.value (Go.Operand.func 19), args := #[Go.Operand.tmp 34, Go.Operand.tmp 35, Go.Operand.tmp 36, Go.Operand.tmp 37], argTypes := #[26, 22, 3, 3] }, type := 5, pos := "law.go:34", after := #[{ on := 12, ground := Go.Ground.data }, { on := 13, ground := Go.Ground.data }, { on := 14, ground := Go.Ground.data }, { on := 15, ground := Go.Ground.data }, { on := 11, ground := Go.Ground.chain }, { on := 11, ground := Go.Ground.guard }], guard := some (11, true) }) rfl (fun K hK => ?_) AllReadyH.nil)
      · skip
        go_simp
        with_reducible refine (W1.out _ (HM1.out.at HN.out B6.out)).mono ?_
        rintro q_ u7 ⟨rfl, hb⟩
        have B7 := Lib.hid (vian HN.out B6.out hb)
        have P7 := Lib.hid (P6.out.below hb)
        have Q7 := Lib.hid (Q6.out.below hb)
        clear hb
        clear B6 P6 Q6
        refine hK.out _ _ ?s21 (fun hNew => ?r21)
        case s21 => exact ⟨P7.out.2.1, Q7.out.2.1⟩
        clear hK K hHeld
        have hHeld := hNew
        clear hNew
        refine wpAnyH_ready (rs := [21]) (by kernel_rfl) (by simp) ?_
        refine (AllReadyH.cons (o := { dst := some 43, op := Go.Op.call { callee := Go.Callee.value (Go.Operand.func 20), args := #[Go.Operand.tmp 39, Go.Operand.tmp 40, Go.Operand.tmp 41, Go.Operand.tmp 42], argTypes := #[24, 22, 3, 3] }, type := 5, pos := "law.go:34", after := #[{ on := 17, ground := Go.Ground.data }, { on := 18, ground := Go.Ground.data }, { on := 19, ground := Go.Ground.data }, { on := 20, ground := Go.Ground.data }, { on := 16, ground := Go.Ground.chain }, { on := 11, ground := Go.Ground.guard }], guard := some (11, true) }) rfl (fun K hK => ?_) AllReadyH.nil)
        · skip
          go_simp
          with_reducible refine (W2.out _ (HM1.out.at HN.out B7.out)).mono ?_
          rintro q_ u8 ⟨rfl, hb⟩
          have B8 := Lib.hid (vian HN.out B7.out hb)
          have P8 := Lib.hid (P7.out.below hb)
          have Q8 := Lib.hid (Q7.out.below hb)
          clear hb
          clear B7 P7 Q7
          refine hK.out _ _ ?s22 (fun hNew => ?r22)
          case s22 => exact ⟨P8.out.2.1, Q8.out.2.1⟩
          clear hK K hHeld
          have hHeld := hNew
          clear hNew
          refine wpAnyH_take (i := 22) (oi := { dst := some 44, op := Go.Op.binOp Go.BinOp.eql 5 (Go.Operand.tmp 38) (Go.Operand.tmp 43) 5, type := 4, pos := "law.go:34", after := #[{ on := 16, ground := Go.Ground.data }, { on := 21, ground := Go.Ground.data }, { on := 11, ground := Go.Ground.guard }], guard := some (11, true) }) (v := ?v23) rfl (by kernel_rfl) (by kernel_rfl) (by kernel_rfl) (fun _ _ _ h => h) (Or.inl ⟨by rfl, ?y23⟩) (by assumption) ?z23
          case y23 => (intro w hSw; (try dsimp only at hSw); go_simp) <;> with_reducible rfl
          try simp only [Act.put, List.setIfInBounds_toArray, List.set_cons_zero, List.set_cons_succ]
          refine wpAnyH_take (i := 23) (oi := { dst := some 45, op := Go.Op.pick (Go.Operand.tmp 33) (Go.Operand.tmp 44) (Go.Operand.const (Go.Value.bool false)), type := 4, pos := "law.go:34", after := #[{ on := 11, ground := Go.Ground.data }, { on := 22, ground := Go.Ground.data }], guard := none }) (v := ?v24) rfl (by kernel_rfl) (by kernel_rfl) (by kernel_rfl) (fun _ _ _ h => h) (Or.inl ⟨by rfl, ?y24⟩) (by assumption) ?z24
          case y24 => (intro w hSw; (try dsimp only at hSw); go_simp) <;> with_reducible rfl
          try simp only [Act.put, List.setIfInBounds_toArray, List.set_cons_zero, List.set_cons_succ]
          refine wpAnyH_take (i := 24) (oi := { dst := some 46, op := Go.Op.move (Go.Operand.tmp 45), type := 4, pos := "law.go:34", after := #[{ on := 23, ground := Go.Ground.data }, { on := 21, ground := Go.Ground.chain }], guard := none }) (v := ?v25) rfl (by kernel_rfl) (by kernel_rfl) (by kernel_rfl) (fun _ _ _ h => h) (Or.inl ⟨by rfl, ?y25⟩) (by assumption) ?z25
          case y25 => (intro w hSw; (try dsimp only at hSw); go_simp) <;> with_reducible rfl
          try simp only [Act.put, List.setIfInBounds_toArray, List.set_cons_zero, List.set_cons_succ]
          refine wpAnyH_take (i := 25) (oi := { dst := some 47, op := Go.Op.load 26 (Go.Operand.tmp 9), type := 26, pos := "law.go:34", after := #[{ on := 24, ground := Go.Ground.guard }], guard := some (24, true) }) (v := ?v26) rfl (by kernel_rfl) (by kernel_rfl) (by kernel_rfl) (fun _ _ _ h => h) (Or.inl ⟨by rfl, ?y26⟩) (by assumption) ?z26
          case y26 => (intro w hSw; (try dsimp only at hSw); go_simp) <;> with_reducible rfl
          try simp only [Act.put, List.setIfInBounds_toArray, List.set_cons_zero, List.set_cons_succ]
          refine wpAnyH_take (i := 26) (oi := { dst := some 48, op := Go.Op.move (Go.Operand.tmp 0), type := 22, pos := "law.go:34", after := #[{ on := 24, ground := Go.Ground.guard }], guard := some (24, true) }) (v := ?v27) rfl (by kernel_rfl) (by kernel_rfl) (by kernel_rfl) (fun _ _ _ h => h) (Or.inl ⟨by rfl, ?y27⟩) (by assumption) ?z27
          case y27 => (intro w hSw; (try dsimp only at hSw); go_simp) <;> with_reducible rfl
          try simp only [Act.put, List.setIfInBounds_toArray, List.set_cons_zero, List.set_cons_succ]
          refine wpAnyH_take (i := 27) (oi := { dst := some 49, op := Go.Op.move (Go.Operand.tmp 2), type := 3, pos := "law.go:34", after := #[{ on := 24, ground := Go.Ground.guard }], guard := some (24, true) }) (v := ?v28) rfl (by kernel_rfl) (by kernel_rfl) (by kernel_rfl) (fun _ _ _ h => h) (Or.inl ⟨by rfl, ?y28⟩) (by assumption) ?z28
          case y28 => (intro w hSw; (try dsimp only at hSw); go_simp) <;> with_reducible rfl
          try simp only [Act.put, List.setIfInBounds_toArray, List.set_cons_zero, List.set_cons_succ]
          refine wpAnyH_take (i := 28) (oi := { dst := some 50, op := Go.Op.move (Go.Operand.tmp 3), type := 3, pos := "law.go:34", after := #[{ on := 24, ground := Go.Ground.guard }], guard := some (24, true) }) (v := ?v29) rfl (by kernel_rfl) (by kernel_rfl) (by kernel_rfl) (fun _ _ _ h => h) (Or.inl ⟨by rfl, ?y29⟩) (by assumption) ?z29
          case y29 => (intro w hSw; (try dsimp only at hSw); go_simp) <;> with_reducible rfl
          try simp only [Act.put, List.setIfInBounds_toArray, List.set_cons_zero, List.set_cons_succ]
          refine wpAnyH_take (i := 30) (oi := { dst := some 52, op := Go.Op.load 24 (Go.Operand.tmp 5), type := 24, pos := "law.go:34", after := #[{ on := 24, ground := Go.Ground.guard }], guard := some (24, true) }) (v := ?v30) rfl (by kernel_rfl) (by kernel_rfl) (by kernel_rfl) (fun _ _ _ h => h) (Or.inl ⟨by rfl, ?y30⟩) (by assumption) ?z30
          case y30 => (intro w hSw; (try dsimp only at hSw); go_simp) <;> with_reducible rfl
          try simp only [Act.put, List.setIfInBounds_toArray, List.set_cons_zero, List.set_cons_succ]
          refine wpAnyH_take (i := 31) (oi := { dst := some 53, op := Go.Op.move (Go.Operand.tmp 0), type := 22, pos := "law.go:34", after := #[{ on := 24, ground := Go.Ground.guard }], guard := some (24, true) }) (v := ?v31) rfl (by kernel_rfl) (by kernel_rfl) (by kernel_rfl) (fun _ _ _ h => h) (Or.inl ⟨by rfl, ?y31⟩) (by assumption) ?z31
          case y31 => (intro w hSw; (try dsimp only at hSw); go_simp) <;> with_reducible rfl
          try simp only [Act.put, List.setIfInBounds_toArray, List.set_cons_zero, List.set_cons_succ]
          refine wpAnyH_take (i := 32) (oi := { dst := some 54, op := Go.Op.move (Go.Operand.tmp 2), type := 3, pos := "law.go:34", after := #[{ on := 24, ground := Go.Ground.guard }], guard := some (24, true) }) (v := ?v32) rfl (by kernel_rfl) (by kernel_rfl) (by kernel_rfl) (fun _ _ _ h => h) (Or.inl ⟨by rfl, ?y32⟩) (by assumption) ?z32
          case y32 => (intro w hSw; (try dsimp only at hSw); go_simp) <;> with_reducible rfl
          try simp only [Act.put, List.setIfInBounds_toArray, List.set_cons_zero, List.set_cons_succ]
          refine wpAnyH_take (i := 33) (oi := { dst := some 55, op := Go.Op.move (Go.Operand.tmp 3), type := 3, pos := "law.go:34", after := #[{ on := 24, ground := Go.Ground.guard }], guard := some (24, true) }) (v := ?v33) rfl (by kernel_rfl) (by kernel_rfl) (by kernel_rfl) (fun _ _ _ h => h) (Or.inl ⟨by rfl, ?y33⟩) (by assumption) ?z33
          case y33 => (intro w hSw; (try dsimp only at hSw); go_simp) <;> with_reducible rfl
          try simp only [Act.put, List.setIfInBounds_toArray, List.set_cons_zero, List.set_cons_succ]
          refine wpAnyH_ready (rs := [29]) (by kernel_rfl) (by simp) ?_
          refine (AllReadyH.cons (o := { dst := some 51, op := Go.Op.call { callee := Go.Callee.value (Go.Operand.func 17), args := #[Go.Operand.tmp 47, Go.Operand.tmp 48, Go.Operand.tmp 49, Go.Operand.tmp 50], argTypes := #[26, 22, 3, 3] }, type := 5, pos := "law.go:34", after := #[{ on := 25, ground := Go.Ground.data }, { on := 26, ground := Go.Ground.data }, { on := 27, ground := Go.Ground.data }, { on := 28, ground := Go.Ground.data }, { on := 24, ground := Go.Ground.chain }, { on := 24, ground := Go.Ground.guard }], guard := some (24, true) }) rfl (fun K hK => ?_) AllReadyH.nil)
          · skip
            go_simp
            with_reducible refine (D1.out _ (HM0.out.at HN.out B8.out)).mono ?_
            rintro q_ u9 ⟨rfl, hb⟩
            have B9 := Lib.hid (vian HN.out B8.out hb)
            have P9 := Lib.hid (P8.out.below hb)
            have Q9 := Lib.hid (Q8.out.below hb)
            clear hb
            clear B8 P8 Q8
            refine hK.out _ _ ?s34 (fun hNew => ?r34)
            case s34 => exact ⟨P9.out.2.1, Q9.out.2.1⟩
            clear hK K hHeld
            have hHeld := hNew
            clear hNew
            refine wpAnyH_ready (rs := [34]) (by kernel_rfl) (by simp) ?_
            refine (AllReadyH.cons (o := { dst := some 56, op := Go.Op.call { callee := Go.Callee.value (Go.Operand.func 18), args := #[Go.Operand.tmp 52, Go.Operand.tmp 53, Go.Operand.tmp 54, Go.Operand.tmp 55], argTypes := #[24, 22, 3, 3] }, type := 5, pos := "law.go:34", after := #[{ on := 30, ground := Go.Ground.data }, { on := 31, ground := Go.Ground.data }, { on := 32, ground := Go.Ground.data }, { on := 33, ground := Go.Ground.data }, { on := 29, ground := Go.Ground.chain }, { on := 24, ground := Go.Ground.guard }], guard := some (24, true) }) rfl (fun K hK => ?_) AllReadyH.nil)
            · skip
              go_simp
              with_reducible refine (D2.out _ (HM0.out.at HN.out B9.out)).mono ?_
              rintro q_ u10 ⟨rfl, hb⟩
              have B10 := Lib.hid (vian HN.out B9.out hb)
              have P10 := Lib.hid (P9.out.below hb)
              have Q10 := Lib.hid (Q9.out.below hb)
              clear hb
              clear B9 P9 Q9
              refine hK.out _ _ ?s35 (fun hNew => ?r35)
              case s35 => exact ⟨P10.out.2.1, Q10.out.2.1⟩
              clear hK K hHeld
              have hHeld := hNew
              clear hNew
              refine wpAnyH_take (i := 35) (oi := { dst := some 57, op := Go.Op.binOp Go.BinOp.eql 5 (Go.Operand.tmp 51) (Go.Operand.tmp 56) 5, type := 4, pos := "law.go:34", after := #[{ on := 29, ground := Go.Ground.data }, { on := 34, ground := Go.Ground.data }, { on := 24, ground := Go.Ground.guard }], guard := some (24, true) }) (v := ?v36) rfl (by kernel_rfl) (by kernel_rfl) (by kernel_rfl) (fun _ _ _ h => h) (Or.inl ⟨by rfl, ?y36⟩) (by assumption) ?z36
              case y36 => (intro w hSw; (try dsimp only at hSw); go_simp) <;> with_reducible rfl
              try simp only [Act.put, List.setIfInBounds_toArray, List.set_cons_zero, List.set_cons_succ]
              refine wpAnyH_take (i := 36) (oi := { dst := some 58, op := Go.Op.pick (Go.Operand.tmp 46) (Go.Operand.tmp 57) (Go.Operand.const (Go.Value.bool false)), type := 4, pos := "law.go:34", after := #[{ on := 24, ground := Go.Ground.data }, { on := 35, ground := Go.Ground.data }], guard := none }) (v := ?v37) rfl (by kernel_rfl) (by kernel_rfl) (by kernel_rfl) (fun _ _ _ h => h) (Or.inl ⟨by rfl, ?y37⟩) (by assumption) ?z37
              case y37 => (intro w hSw; (try dsimp only at hSw); go_simp) <;> with_reducible rfl
              try simp only [Act.put, List.setIfInBounds_toArray, List.set_cons_zero, List.set_cons_succ]
              refine wpAnyH_take (i := 37) (oi := { dst := some 8, op := Go.Op.assign (Go.Operand.tmp 58), type := 4, pos := "law.go:34", after := #[{ on := 36, ground := Go.Ground.data }, { on := 34, ground := Go.Ground.chain }, { on := 0, ground := Go.Ground.phase }, { on := 1, ground := Go.Ground.phase }, { on := 2, ground := Go.Ground.phase }, { on := 3, ground := Go.Ground.phase }, { on := 4, ground := Go.Ground.phase }, { on := 5, ground := Go.Ground.phase }, { on := 6, ground := Go.Ground.phase }, { on := 7, ground := Go.Ground.phase }, { on := 8, ground := Go.Ground.phase }, { on := 9, ground := Go.Ground.phase }, { on := 10, ground := Go.Ground.phase }, { on := 11, ground := Go.Ground.phase }, { on := 12, ground := Go.Ground.phase }, { on := 13, ground := Go.Ground.phase }, { on := 14, ground := Go.Ground.phase }, { on := 15, ground := Go.Ground.phase }, { on := 16, ground := Go.Ground.phase }, { on := 17, ground := Go.Ground.phase }, { on := 18, ground := Go.Ground.phase }, { on := 19, ground := Go.Ground.phase }, { on := 20, ground := Go.Ground.phase }, { on := 21, ground := Go.Ground.phase }, { on := 22, ground := Go.Ground.phase }, { on := 23, ground := Go.Ground.phase }, { on := 24, ground := Go.Ground.phase }, { on := 25, ground := Go.Ground.phase }, { on := 26, ground := Go.Ground.phase }, { on := 27, ground := Go.Ground.phase }, { on := 28, ground := Go.Ground.phase }, { on := 29, ground := Go.Ground.phase }, { on := 30, ground := Go.Ground.phase }, { on := 31, ground := Go.Ground.phase }, { on := 32, ground := Go.Ground.phase }, { on := 33, ground := Go.Ground.phase }, { on := 34, ground := Go.Ground.phase }, { on := 35, ground := Go.Ground.phase }, { on := 36, ground := Go.Ground.phase }], guard := none }) (v := ?v38) rfl (by kernel_rfl) (by kernel_rfl) (by kernel_rfl) (fun _ _ _ h => h) (Or.inl ⟨by rfl, ?y38⟩) (by assumption) ?z38
              case y38 => (intro w hSw; (try dsimp only at hSw); go_simp) <;> with_reducible rfl
              try simp only [Act.put, List.setIfInBounds_toArray, List.set_cons_zero, List.set_cons_succ]
              refine wpAnyH_done (by kernel_rfl) ?_ _
              clear hHeld
              go_wp2_with (fail)
              all_goals exact bodyPost_ret (v := .bool true) (by simp [results, Try.results4, go_sem]) rfl ⟨rfl, ZF.out _ B10.out⟩
theorem places_walk (c sx sy wx wy : Int) (c0 : 0 ≤ c) (c1 : c < 256) (sx0 : 0 ≤ sx) (sx1 : sx < 256) (sy0 : 0 ≤ sy) (sy1 : sy < 256) (wx0 : 0 ≤ wx) (wx1 : wx < 256) (wy0 : 0 ≤ wy) (wy1 : wy < 256) (b : Value) (x y : Int) (x0 : -9223372036854775808 ≤ x) (x1 : x ≤ 9223372036854775807) (y0 : -9223372036854775808 ≤ y) (y1 : y ≤ 9223372036854775807) (w : World) (hin : MemIn w b) : Calls Try.prog 4 #[b, .agg #[.int .u8 c, .int .u8 sx, .int .u8 sy, .int .u8 wx, .int .u8 wy], .int .i64 x, .int .i64 y] w fun q_ w' => q_ = .returned (.bool true) ∧ Below w.heap.size w w' := by
  obtain ⟨a, n, cp, rfl, h1, h2⟩ := hin
  by_cases h : 3000 < n
  · exact places_long c sx sy wx wy c0 c1 sx0 sx1 sy0 sy1 wx0 wx1 wy0 wy1 a n cp x y x0 x1 y0 y1 h w
  · obtain ⟨F, hF⟩ := h2 (by omega)
    exact places_short c sx sy wx wy c0 c1 sx0 sx1 sy0 sy1 wx0 wx1 wy0 wy1 a n cp F x y x0 x1 y0 y1 (by omega) w hF
end Go.Proofs.Ytgoagcombkamkaa
