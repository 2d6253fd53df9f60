/-
  The walk through TilesLines: for every memory, view and line.
-/
import Derived.Test.YtgoagcombkamkaaOpn
import Derived.Deep.Cut
import Derived.BigQuiet
import Derived.WalkSmall
namespace Go.Proofs.Ytgoagcombkamkaa
open Go.ChangeShapes Go.WideShapes Go.ChangeAt Go.RowKit
set_option linter.unusedVariables false
set_option linter.unusedSimpArgs false
set_option maxRecDepth 100000
/-- A line that a block of its own takes up. -/
theorem keep_new {n : Nat} {W0 u u' : World} (hn : n ≤ W0.heap.size) (hb : Below n W0 u) (o : Obj) (hk : Keeps u.heap.size (u.alloc o) u') : Below n W0 u' :=
  hk.below hn (Nat.le_trans hn hb.size) (vian hn hb (own1 u o))
set_option maxHeartbeats 2000000 in
theorem lines_long (c sx sy wx wy : Int) (c0 : 0 ≤ c) (c1 : c < 256) (sx0 : 0 ≤ sx) (sx1 : sx < 256) (sy0 : 0 ≤ sy) (sy1 : sy < 256) (wx0 : 0 ≤ wx) (wx1 : wx < 256) (wy0 : 0 ≤ wy) (wy1 : wy < 256) (a : Option Addr) (n cp : Nat) (line ow : Int) (line0 : -9223372036854775808 ≤ line) (line1 : line ≤ 9223372036854775807) (ow0 : -9223372036854775808 ≤ ow) (ow1 : ow ≤ 9223372036854775807) (h : 3000 < n) (w : World) : Calls Try.prog 5 #[.slice a n cp, .agg #[.int .u8 c, .int .u8 sx, .int .u8 sy, .int .u8 wx, .int .u8 wy], .int .i64 line, .int .i64 ow] w fun q_ w' => q_ = .returned (.bool true) ∧ Below w.heap.size w w' := by
  suffices hall : ∀ (n_ : Nat) (W0 : World), n_ ≤ W0.heap.size → Below n_ W0 w → Calls Try.prog 5 #[.slice a n cp, .agg #[.int .u8 c, .int .u8 sx, .int .u8 sy, .int .u8 wx, .int .u8 wy], .int .i64 line, .int .i64 ow] w fun q_ w' => q_ = .returned (.bool true) ∧ Below n_ W0 w' from hall _ _ (Nat.le_refl _) (Below.refl _ _)
  intro n_ W0 hn hB
  have HN := Lib.hid hn
  have BB := Lib.hid hB
  clear hn hB
  have AW := Lib.hid awake_c
  have hnot : ∀ (x : Bool) (w : World), (Op.unary .not (.bool x)).run Try.prog w = .ok (.bool (!x)) w := fun _ _ => rfl
  have hI : (3000 : Int) < n := by omega
  go_enter Try.func5, Try.ntmps5
  have Q_ := own1 w (.cells #[.int .u8 c, .int .u8 sx, .int .u8 sy, .int .u8 wx, .int .u8 wy] 24)
  have B0 := Lib.hid (vian HN.out BB.out Q_)
  have P0 := Lib.hid (show Has (w.alloc (.cells #[.int .u8 c, .int .u8 sx, .int .u8 sy, .int .u8 wx, .int .u8 wy] 24)) w.heap.size #[.int .u8 c, .int .u8 sx, .int .u8 sy, .int .u8 wx, .int .u8 wy] by simpa using Has.new w #[.int .u8 c, .int .u8 sx, .int .u8 sy, .int .u8 wx, .int .u8 wy] 24)
  have LP := Lib.hid (show n_ ≤ w.heap.size + 0 from Nat.le_add_right_of_le (Nat.le_trans HN.out BB.out.size))
  simp only [Nat.add_zero] at LP
  clear Q_
  go_upto_region 1 with (fail)
  generalize (w.alloc (.cells #[.int .u8 c, .int .u8 sx, .int .u8 sy, .int .u8 wx, .int .u8 wy] 24)) = u0 at B0 P0 ⊢
  generalize w.heap.size = pb at P0 LP  ⊢
  go_wp2_with (fail)
  with_reducible refine (AW.out _).mono ?_
  rintro q_ u1 ⟨rfl, hb⟩
  have B1 := Lib.hid (vian HN.out B0.out hb)
  have P1 := Lib.hid (P0.out.below hb)
  clear hb B0 P0
  go_wp2_with (fail)
  with_reducible refine (AW.out _).mono ?_
  rintro q_ u2 ⟨rfl, hb⟩
  have B2 := Lib.hid (vian HN.out B1.out hb)
  have P2 := Lib.hid (P1.out.below hb)
  clear hb B1 P1
  go_wp2_with (fail)
  all_goals exact bodyPost_ret (v := .bool true) (by simp [results, Try.results5, go_sem]) rfl ⟨rfl, B2.out⟩
set_option maxHeartbeats 8000000 in
theorem lines_short (c sx sy wx wy : Int) (c0 : 0 ≤ c) (c1 : c < 256) (sx0 : 0 ≤ sx) (sx1 : sx < 256) (sy0 : 0 ≤ sy) (sy1 : sy < 256) (wx0 : 0 ≤ wx) (wx1 : wx < 256) (wy0 : 0 ≤ wy) (wy1 : wy < 256) (a : Option Addr) (n cp : Nat) (F : M) (line ow : Int) (line0 : -9223372036854775808 ≤ line) (line1 : line ≤ 9223372036854775807) (ow0 : -9223372036854775808 ≤ ow) (ow1 : ow ≤ 9223372036854775807) (h : n ≤ 3000) (w : World) (hM0 : Mem w (.slice a n cp) F) : Calls Try.prog 5 #[.slice a n cp, .agg #[.int .u8 c, .int .u8 sx, .int .u8 sy, .int .u8 wx, .int .u8 wy], .int .i64 line, .int .i64 ow] w fun q_ w' => q_ = .returned (.bool true) ∧ Below w.heap.size w w' := by
  suffices hall : ∀ (n_ : Nat) (W0 : World), n_ ≤ W0.heap.size → Below n_ W0 w → MemB n_ W0 (.slice a n cp) F → Calls Try.prog 5 #[.slice a n cp, .agg #[.int .u8 c, .int .u8 sx, .int .u8 sy, .int .u8 wx, .int .u8 wy], .int .i64 line, .int .i64 ow] w fun q_ w' => q_ = .returned (.bool true) ∧ Below n_ W0 w' from hall _ _ (Nat.le_refl _) (Below.refl _ _) hM0
  clear hM0
  intro n_ W0 hn hB hM0
  have HN := Lib.hid hn
  have BB := Lib.hid hB
  clear hn hB
  have HM0 := Lib.hid hM0
  clear hM0
  have AW := Lib.hid awake_c
  have hnot : ∀ (x : Bool) (w : World), (Op.unary .not (.bool x)).run Try.prog w = .ok (.bool (!x)) w := fun _ _ => rfl
  have hI : ¬ (3000 : Int) < n := by omega
  have hz34 : ∀ w : World, (zeroValue 34).run Try.prog w = .ok (.agg (enc zeroM)) w := zero34
  go_enter Try.func5, Try.ntmps5
  have Q_ := own1 w (.cells #[.int .u8 c, .int .u8 sx, .int .u8 sy, .int .u8 wx, .int .u8 wy] 24)
  have B0 := Lib.hid (vian HN.out BB.out Q_)
  have P0 := Lib.hid (show Has (w.alloc (.cells #[.int .u8 c, .int .u8 sx, .int .u8 sy, .int .u8 wx, .int .u8 wy] 24)) w.heap.size #[.int .u8 c, .int .u8 sx, .int .u8 sy, .int .u8 wx, .int .u8 wy] by simpa using Has.new w #[.int .u8 c, .int .u8 sx, .int .u8 sy, .int .u8 wx, .int .u8 wy] 24)
  have LP := Lib.hid (show n_ ≤ w.heap.size + 0 from Nat.le_add_right_of_le (Nat.le_trans HN.out BB.out.size))
  simp only [Nat.add_zero] at LP
  clear Q_
  go_upto_region 1 with (fail)
  generalize (w.alloc (.cells #[.int .u8 c, .int .u8 sx, .int .u8 sy, .int .u8 wx, .int .u8 wy] 24)) = u0 at B0 P0 ⊢
  generalize w.heap.size = pb at P0 LP  ⊢
  go_wp2_with (fail)
  with_reducible refine (AW.out _).mono ?_
  rintro q_ u1 ⟨rfl, hb⟩
  have B1 := Lib.hid (vian HN.out B0.out hb)
  have P1 := Lib.hid (P0.out.below hb)
  clear hb B0 P0
  obtain ⟨hc0, hf0⟩ := P1.out.out
  go_wp2_with (fail)
  clear hc0 hf0
  with_reducible refine (filled_m a n cp F _ (HM0.out.at HN.out B1.out)).mono ?_
  rintro q_ u2 ⟨sv, rfl, hm, hb⟩
  have hb3 := vian HN.out B1.out hb
  have hm0 := (HM0.out.at HN.out B1.out).at (Nat.le_refl _) hb
  have P2 := Lib.hid (P1.out.below hb)
  have QF := Lib.hid (show ∀ w', Below u2.heap.size u2 w' → Below n_ W0 w' from fun w' h => vian HN.out hb3 h)
  have ZN := Lib.hid (show n_ ≤ u2.heap.size from Nat.le_trans HN.out hb3.size)
  obtain ⟨n3, V3, hn3, b3, m0, m1, z3⟩ : ∃ (n3 : Nat) (V3 : World), n3 ≤ V3.heap.size ∧ Below n3 V3 u2 ∧ MemB n3 V3 (.slice a n cp) F ∧ MemB n3 V3 sv (filledV F n) ∧ (∀ w', Below n3 V3 w' → Below n_ W0 w') := ⟨u2.heap.size, u2, Nat.le_refl _, Below.refl _ _, hm0, hm, QF.out⟩
  have HN := Lib.hid hn3
  have B2 := Lib.hid b3
  have HM0 := Lib.hid m0
  have HM1 := Lib.hid m1
  have ZF := Lib.hid z3
  clear hm hb hb3 hm0 hn3 b3 m0 m1 z3 QF ZN B1 P1
  obtain ⟨G, hG⟩ : ∃ G, G = filledV F n := ⟨_, rfl⟩
  rw [← hG] at HM1
  clear hG
  have L1 := Lib.hid (fun W h => line_c c sx sy wx wy c0 c1 sx0 sx1 sy0 sy1 wx0 wx1 wy0 wy1 sv G line ow line0 line1 ow0 ow1 W h)
  have L2 := Lib.hid (fun W h => rline_c c sx sy wx wy c0 c1 sx0 sx1 sy0 sy1 wx0 wx1 wy0 wy1 sv G line ow line0 line1 ow0 ow1 W h)
  have SN := Lib.hid (fun W => seen_c c sx sy wx wy c0 c1 sx0 sx1 sy0 sy1 wx0 wx1 wy0 wy1 line line0 line1 W)
  rw [show (decide (bit c 0 = 1) && reachV c wx wy line) = seenV c wx wy line from rfl] at SN
  obtain ⟨m, hm⟩ : ∃ q_, q_ = lineE G c sx sy wx wy line ow := ⟨_, rfl⟩
  obtain ⟨v, hv⟩ : ∃ q_, q_ = seenV c wx wy line := ⟨_, rfl⟩
  rw [← hm] at L1 L2
  rw [← hv] at L1 SN
  clear hm hv
  obtain ⟨hc0, hf0⟩ := P2.out.out
  go_wp2_with (fail)
  clear hc0 hf0
  with_reducible refine (L1.out _ (HM1.out.at HN.out B2.out)).mono ?_
  rintro q_ u3 ⟨rfl, hb⟩
  have B3 := Lib.hid (vian HN.out B2.out hb)
  have P3 := Lib.hid (P2.out.below hb)
  clear hb B2 P2
  go_wp2_with (refine store_b (Has.new u3 (enc zeroM) 34) (m) rfl _ _ rfl rfl rfl ?_)
  intro u4 hP hk
  have B4 := Lib.hid (keep_new HN.out B3.out _ hk)
  have NPL := Lib.hid (Nat.ne_of_lt P3.out.1)
  have P4 := Lib.hid (hk.has NPL.out (P3.out.below (own1 _ _)))
  have L4 := Lib.hid hP
  generalize u3.heap.size = lb at L4 NPL ⊢
  clear hk hP B3 P3
  try simp only [Act.put, List.setIfInBounds_toArray, List.set_cons_zero, List.set_cons_succ]
  cases v
  · skip
    go_upto_region 5 with (fail)
    have B5 := Lib.hid B4.out.drew
    have P5 := Lib.hid P4.out.drew
    have L5 := Lib.hid L4.out.drew
    clear B4 P4 L4
    refine wp_region_held_drew (S := (fun w' => (∀ o, w'.cell? ⟨pb, o, none⟩ = (#[.int .u8 c, .int .u8 sx, .int .u8 sy, .int .u8 wx, .int .u8 wy])[o]?) ∧ (w'.rangeAt lb 0 (enc m).toList))) (by kernel_rfl) ⟨P5.out.2.1, range_of_has L5.out⟩ (fun hHeld => ?_)
    generalize World.drew _ = u5 at hHeld B5 P5 L5 ⊢
    refine wpAnyH_take (i := 0) (oi := { dst := some 30, op := Go.Op.load 34 (Go.Operand.tmp 10), type := 34, pos := "law.go:44", after := #[], guard := none }) (v := .agg (enc m)) rfl (by kernel_rfl) (by kernel_rfl) (by kernel_rfl) (fun _ _ _ h => h) (yields_load m lb (fun w hw => hw.2) (by rfl) _ rfl rfl) (by assumption) ?_
    try simp only [Act.put, List.setIfInBounds_toArray, List.set_cons_zero, List.set_cons_succ]
    refine wpAnyH_take (i := 1) (oi := { dst := some 31, op := Go.Op.load 24 (Go.Operand.tmp 5), type := 24, pos := "law.go:44", after := #[], guard := none }) (v := ?v2) rfl (by kernel_rfl) (by kernel_rfl) (by kernel_rfl) (fun _ _ _ h => h) (Or.inl ⟨by rfl, ?y2⟩) (by assumption) ?z2
    case y2 => (intro w hSw; (try dsimp only at hSw); go_simp) <;> with_reducible rfl
    try simp only [Act.put, List.setIfInBounds_toArray, List.set_cons_zero, List.set_cons_succ]
    refine wpAnyH_take (i := 2) (oi := { dst := some 32, op := Go.Op.move (Go.Operand.tmp 9), type := 22, pos := "law.go:44", after := #[], guard := none }) (v := ?v3) rfl (by kernel_rfl) (by kernel_rfl) (by kernel_rfl) (fun _ _ _ h => h) (Or.inl ⟨by rfl, ?y3⟩) (by assumption) ?z3
    case y3 => (intro w hSw; (try dsimp only at hSw); go_simp) <;> with_reducible rfl
    try simp only [Act.put, List.setIfInBounds_toArray, List.set_cons_zero, List.set_cons_succ]
    refine wpAnyH_take (i := 3) (oi := { dst := some 33, op := Go.Op.move (Go.Operand.tmp 2), type := 3, pos := "law.go:44", after := #[], guard := none }) (v := ?v4) rfl (by kernel_rfl) (by kernel_rfl) (by kernel_rfl) (fun _ _ _ h => h) (Or.inl ⟨by rfl, ?y4⟩) (by assumption) ?z4
    case y4 => (intro w hSw; (try dsimp only at hSw); go_simp) <;> with_reducible rfl
    try simp only [Act.put, List.setIfInBounds_toArray, List.set_cons_zero, List.set_cons_succ]
    refine wpAnyH_take (i := 4) (oi := { dst := some 34, op := Go.Op.move (Go.Operand.tmp 3), type := 3, pos := "law.go:44", after := #[], guard := none }) (v := ?v5) rfl (by kernel_rfl) (by kernel_rfl) (by kernel_rfl) (fun _ _ _ h => h) (Or.inl ⟨by rfl, ?y5⟩) (by assumption) ?z5
    case y5 => (intro w hSw; (try dsimp only at hSw); go_simp) <;> with_reducible rfl
    try simp only [Act.put, List.setIfInBounds_toArray, List.set_cons_zero, List.set_cons_succ]
    refine wpAnyH_ready (rs := [5]) (by kernel_rfl) (by simp) ?_
    refine (AllReadyH.cons (o := { dst := some 35, op := Go.Op.call { callee := Go.Callee.value (Go.Operand.func 22), args := #[Go.Operand.tmp 31, Go.Operand.tmp 32, Go.Operand.tmp 33, Go.Operand.tmp 34], argTypes := #[24, 22, 3, 3] }, type := 34, pos := "law.go:44", after := #[{ on := 1, ground := Go.Ground.data }, { on := 2, ground := Go.Ground.data }, { on := 3, ground := Go.Ground.data }, { on := 4, ground := Go.Ground.data }], guard := none }) rfl (fun K hK => ?_) AllReadyH.nil)
    · skip
      go_simp
      with_reducible refine (L2.out _ (HM1.out.at HN.out B5.out)).mono ?_
      rintro q_ u6 ⟨rfl, hb⟩
      have B6 := Lib.hid (vian HN.out B5.out hb)
      have P6 := Lib.hid (P5.out.below hb)
      have L6 := Lib.hid (L5.out.below hb)
      clear hb
      clear B5 P5 L5
      refine hK.out _ _ ?s6 (fun hNew => ?r6)
      case s6 => exact ⟨P6.out.2.1, range_of_has L6.out⟩
      clear hK K hHeld
      have hHeld := hNew
      clear hNew
      refine wpAnyH_take (i := 6) (oi := { dst := some 36, op := Go.Op.binOp Go.BinOp.eql 34 (Go.Operand.tmp 30) (Go.Operand.tmp 35) 34, type := 4, pos := "law.go:44", after := #[{ on := 0, ground := Go.Ground.data }, { on := 5, ground := Go.Ground.data }], guard := none }) (v := .bool true) rfl (by kernel_rfl) (by kernel_rfl) (by kernel_rfl) (fun _ _ _ h => h) (yields_eq m (by rfl) _ _ rfl rfl rfl) (by assumption) ?_
      try simp only [Act.put, List.setIfInBounds_toArray, List.set_cons_zero, List.set_cons_succ]
      refine wpAnyH_take (i := 7) (oi := { dst := some 37, op := Go.Op.move (Go.Operand.tmp 36), type := 4, pos := "law.go:44", after := #[{ on := 6, ground := Go.Ground.data }, { on := 5, ground := Go.Ground.chain }], guard := none }) (v := ?v8) rfl (by kernel_rfl) (by kernel_rfl) (by kernel_rfl) (fun _ _ _ h => h) (Or.inl ⟨by rfl, ?y8⟩) (by assumption) ?z8
      case y8 => (intro w hSw; (try dsimp only at hSw); go_simp) <;> with_reducible rfl
      try simp only [Act.put, List.setIfInBounds_toArray, List.set_cons_zero, List.set_cons_succ]
      refine wpAnyH_take (i := 8) (oi := { dst := some 38, op := Go.Op.move (Go.Operand.tmp 11), type := 4, pos := "law.go:44", after := #[{ on := 7, ground := Go.Ground.guard }], guard := some (7, true) }) (v := ?v9) rfl (by kernel_rfl) (by kernel_rfl) (by kernel_rfl) (fun _ _ _ h => h) (Or.inl ⟨by rfl, ?y9⟩) (by assumption) ?z9
      case y9 => (intro w hSw; (try dsimp only at hSw); go_simp) <;> with_reducible rfl
      try simp only [Act.put, List.setIfInBounds_toArray, List.set_cons_zero, List.set_cons_succ]
      refine wpAnyH_take (i := 9) (oi := { dst := some 39, op := Go.Op.load 24 (Go.Operand.tmp 5), type := 24, pos := "law.go:44", after := #[{ on := 7, ground := Go.Ground.guard }], guard := some (7, true) }) (v := ?v10) rfl (by kernel_rfl) (by kernel_rfl) (by kernel_rfl) (fun _ _ _ h => h) (Or.inl ⟨by rfl, ?y10⟩) (by assumption) ?z10
      case y10 => (intro w hSw; (try dsimp only at hSw); go_simp) <;> with_reducible rfl
      try simp only [Act.put, List.setIfInBounds_toArray, List.set_cons_zero, List.set_cons_succ]
      refine wpAnyH_take (i := 10) (oi := { dst := some 40, op := Go.Op.move (Go.Operand.tmp 2), type := 3, pos := "law.go:44", after := #[{ on := 7, ground := Go.Ground.guard }], guard := some (7, true) }) (v := ?v11) rfl (by kernel_rfl) (by kernel_rfl) (by kernel_rfl) (fun _ _ _ h => h) (Or.inl ⟨by rfl, ?y11⟩) (by assumption) ?z11
      case y11 => (intro w hSw; (try dsimp only at hSw); go_simp) <;> with_reducible rfl
      try simp only [Act.put, List.setIfInBounds_toArray, List.set_cons_zero, List.set_cons_succ]
      refine wpAnyH_ready (rs := [11]) (by kernel_rfl) (by simp) ?_
      refine (AllReadyH.cons (o := { dst := some 41, op := Go.Op.call { callee := Go.Callee.value (Go.Operand.func 23), args := #[Go.Operand.tmp 39, Go.Operand.tmp 40], argTypes := #[24, 3] }, type := 4, pos := "law.go:44", after := #[{ on := 9, ground := Go.Ground.data }, { on := 10, ground := Go.Ground.data }, { on := 7, ground := Go.Ground.chain }, { on := 7, ground := Go.Ground.guard }], guard := some (7, true) }) rfl (fun K hK => ?_) AllReadyH.nil)
      · skip
        go_simp
        with_reducible refine (SN.out _).mono ?_
        rintro q_ u7 ⟨rfl, hb⟩
        have B7 := Lib.hid (vian HN.out B6.out hb)
        have P7 := Lib.hid (P6.out.below hb)
        have L7 := Lib.hid (L6.out.below hb)
        clear hb
        clear B6 P6 L6
        refine hK.out _ _ ?s12 (fun hNew => ?r12)
        case s12 => exact ⟨P7.out.2.1, range_of_has L7.out⟩
        clear hK K hHeld
        have hHeld := hNew
        clear hNew
        refine wpAnyH_take (i := 12) (oi := { dst := some 42, op := Go.Op.binOp Go.BinOp.eql 4 (Go.Operand.tmp 38) (Go.Operand.tmp 41) 4, type := 4, pos := "law.go:44", after := #[{ on := 8, ground := Go.Ground.data }, { on := 11, ground := Go.Ground.data }, { on := 7, ground := Go.Ground.guard }], guard := some (7, true) }) (v := ?v13) rfl (by kernel_rfl) (by kernel_rfl) (by kernel_rfl) (fun _ _ _ h => h) (Or.inl ⟨by rfl, ?y13⟩) (by assumption) ?z13
        case y13 => (intro w hSw; (try dsimp only at hSw); go_simp) <;> with_reducible rfl
        try simp only [Act.put, List.setIfInBounds_toArray, List.set_cons_zero, List.set_cons_succ]
        refine wpAnyH_take (i := 13) (oi := { dst := some 43, op := Go.Op.pick (Go.Operand.tmp 37) (Go.Operand.tmp 42) (Go.Operand.const (Go.Value.bool false)), type := 4, pos := "law.go:44", after := #[{ on := 7, ground := Go.Ground.data }, { on := 12, ground := Go.Ground.data }], guard := none }) (v := ?v14) rfl (by kernel_rfl) (by kernel_rfl) (by kernel_rfl) (fun _ _ _ h => h) (Or.inl ⟨by rfl, ?y14⟩) (by assumption) ?z14
        case y14 => (intro w hSw; (try dsimp only at hSw); go_simp) <;> with_reducible rfl
        try simp only [Act.put, List.setIfInBounds_toArray, List.set_cons_zero, List.set_cons_succ]
        refine wpAnyH_take (i := 14) (oi := { dst := some 8, op := Go.Op.assign (Go.Operand.tmp 43), type := 4, pos := "law.go:44", after := #[{ on := 13, ground := Go.Ground.data }, { on := 11, ground := Go.Ground.chain }, { on := 0, ground := Go.Ground.phase }, { on := 1, ground := Go.Ground.phase }, { on := 2, ground := Go.Ground.phase }, { on := 3, ground := Go.Ground.phase }, { on := 4, ground := Go.Ground.phase }, { on := 5, ground := Go.Ground.phase }, { on := 6, ground := Go.Ground.phase }, { on := 7, ground := Go.Ground.phase }, { on := 8, ground := Go.Ground.phase }, { on := 9, ground := Go.Ground.phase }, { on := 10, ground := Go.Ground.phase }, { on := 11, ground := Go.Ground.phase }, { on := 12, ground := Go.Ground.phase }, { on := 13, ground := Go.Ground.phase }], guard := none }) (v := ?v15) rfl (by kernel_rfl) (by kernel_rfl) (by kernel_rfl) (fun _ _ _ h => h) (Or.inl ⟨by rfl, ?y15⟩) (by assumption) ?z15
        case y15 => (intro w hSw; (try dsimp only at hSw); go_simp) <;> with_reducible rfl
        try simp only [Act.put, List.setIfInBounds_toArray, List.set_cons_zero, List.set_cons_succ]
        refine wpAnyH_done (by kernel_rfl) ?_ _
        clear hHeld
        go_wp2_with (fail)
        all_goals exact bodyPost_ret (v := .bool true) (by simp [results, Try.results5, go_sem]) rfl ⟨rfl, ZF.out _ B7.out⟩
  · skip
    go_upto_region 5 with (fail)
    have B5 := Lib.hid B4.out.drew
    have P5 := Lib.hid P4.out.drew
    have L5 := Lib.hid L4.out.drew
    clear B4 P4 L4
    refine wp_region_held_drew (S := (fun w' => (∀ o, w'.cell? ⟨pb, o, none⟩ = (#[.int .u8 c, .int .u8 sx, .int .u8 sy, .int .u8 wx, .int .u8 wy])[o]?) ∧ (w'.rangeAt lb 0 (enc m).toList))) (by kernel_rfl) ⟨P5.out.2.1, range_of_has L5.out⟩ (fun hHeld => ?_)
    generalize World.drew _ = u5 at hHeld B5 P5 L5 ⊢
    refine wpAnyH_take (i := 0) (oi := { dst := some 30, op := Go.Op.load 34 (Go.Operand.tmp 10), type := 34, pos := "law.go:44", after := #[], guard := none }) (v := .agg (enc m)) rfl (by kernel_rfl) (by kernel_rfl) (by kernel_rfl) (fun _ _ _ h => h) (yields_load m lb (fun w hw => hw.2) (by rfl) _ rfl rfl) (by assumption) ?_
    try simp only [Act.put, List.setIfInBounds_toArray, List.set_cons_zero, List.set_cons_succ]
    refine wpAnyH_take (i := 1) (oi := { dst := some 31, op := Go.Op.load 24 (Go.Operand.tmp 5), type := 24, pos := "law.go:44", after := #[], guard := none }) (v := ?v17) rfl (by kernel_rfl) (by kernel_rfl) (by kernel_rfl) (fun _ _ _ h => h) (Or.inl ⟨by rfl, ?y17⟩) (by assumption) ?z17
    case y17 => (intro w hSw; (try dsimp only at hSw); go_simp) <;> with_reducible rfl
    try simp only [Act.put, List.setIfInBounds_toArray, List.set_cons_zero, List.set_cons_succ]
    refine wpAnyH_take (i := 2) (oi := { dst := some 32, op := Go.Op.move (Go.Operand.tmp 9), type := 22, pos := "law.go:44", after := #[], guard := none }) (v := ?v18) rfl (by kernel_rfl) (by kernel_rfl) (by kernel_rfl) (fun _ _ _ h => h) (Or.inl ⟨by rfl, ?y18⟩) (by assumption) ?z18
    case y18 => (intro w hSw; (try dsimp only at hSw); go_simp) <;> with_reducible rfl
    try simp only [Act.put, List.setIfInBounds_toArray, List.set_cons_zero, List.set_cons_succ]
    refine wpAnyH_take (i := 3) (oi := { dst := some 33, op := Go.Op.move (Go.Operand.tmp 2), type := 3, pos := "law.go:44", after := #[], guard := none }) (v := ?v19) rfl (by kernel_rfl) (by kernel_rfl) (by kernel_rfl) (fun _ _ _ h => h) (Or.inl ⟨by rfl, ?y19⟩) (by assumption) ?z19
    case y19 => (intro w hSw; (try dsimp only at hSw); go_simp) <;> with_reducible rfl
    try simp only [Act.put, List.setIfInBounds_toArray, List.set_cons_zero, List.set_cons_succ]
    refine wpAnyH_take (i := 4) (oi := { dst := some 34, op := Go.Op.move (Go.Operand.tmp 3), type := 3, pos := "law.go:44", after := #[], guard := none }) (v := ?v20) rfl (by kernel_rfl) (by kernel_rfl) (by kernel_rfl) (fun _ _ _ h => h) (Or.inl ⟨by rfl, ?y20⟩) (by assumption) ?z20
    case y20 => (intro w hSw; (try dsimp only at hSw); go_simp) <;> with_reducible rfl
    try simp only [Act.put, List.setIfInBounds_toArray, List.set_cons_zero, List.set_cons_succ]
    refine wpAnyH_ready (rs := [5]) (by kernel_rfl) (by simp) ?_
    refine (AllReadyH.cons (o := { dst := some 35, op := Go.Op.call { callee := Go.Callee.value (Go.Operand.func 22), args := #[Go.Operand.tmp 31, Go.Operand.tmp 32, Go.Operand.tmp 33, Go.Operand.tmp 34], argTypes := #[24, 22, 3, 3] }, type := 34, pos := "law.go:44", after := #[{ on := 1, ground := Go.Ground.data }, { on := 2, ground := Go.Ground.data }, { on := 3, ground := Go.Ground.data }, { on := 4, ground := Go.Ground.data }], guard := none }) rfl (fun K hK => ?_) AllReadyH.nil)
    · skip
      go_simp
      with_reducible refine (L2.out _ (HM1.out.at HN.out B5.out)).mono ?_
      rintro q_ u6 ⟨rfl, hb⟩
      have B6 := Lib.hid (vian HN.out B5.out hb)
      have P6 := Lib.hid (P5.out.below hb)
      have L6 := Lib.hid (L5.out.below hb)
      clear hb
      clear B5 P5 L5
      refine hK.out _ _ ?s21 (fun hNew => ?r21)
      case s21 => exact ⟨P6.out.2.1, range_of_has L6.out⟩
      clear hK K hHeld
      have hHeld := hNew
      clear hNew
      refine wpAnyH_take (i := 6) (oi := { dst := some 36, op := Go.Op.binOp Go.BinOp.eql 34 (Go.Operand.tmp 30) (Go.Operand.tmp 35) 34, type := 4, pos := "law.go:44", after := #[{ on := 0, ground := Go.Ground.data }, { on := 5, ground := Go.Ground.data }], guard := none }) (v := .bool true) rfl (by kernel_rfl) (by kernel_rfl) (by kernel_rfl) (fun _ _ _ h => h) (yields_eq m (by rfl) _ _ rfl rfl rfl) (by assumption) ?_
      try simp only [Act.put, List.setIfInBounds_toArray, List.set_cons_zero, List.set_cons_succ]
      refine wpAnyH_take (i := 7) (oi := { dst := some 37, op := Go.Op.move (Go.Operand.tmp 36), type := 4, pos := "law.go:44", after := #[{ on := 6, ground := Go.Ground.data }, { on := 5, ground := Go.Ground.chain }], guard := none }) (v := ?v23) rfl (by kernel_rfl) (by kernel_rfl) (by kernel_rfl) (fun _ _ _ h => h) (Or.inl ⟨by rfl, ?y23⟩) (by assumption) ?z23
      case y23 => (intro w hSw; (try dsimp only at hSw); go_simp) <;> with_reducible rfl
      try simp only [Act.put, List.setIfInBounds_toArray, List.set_cons_zero, List.set_cons_succ]
      refine wpAnyH_take (i := 8) (oi := { dst := some 38, op := Go.Op.move (Go.Operand.tmp 11), type := 4, pos := "law.go:44", after := #[{ on := 7, ground := Go.Ground.guard }], guard := some (7, true) }) (v := ?v24) rfl (by kernel_rfl) (by kernel_rfl) (by kernel_rfl) (fun _ _ _ h => h) (Or.inl ⟨by rfl, ?y24⟩) (by assumption) ?z24
      case y24 => (intro w hSw; (try dsimp only at hSw); go_simp) <;> with_reducible rfl
      try simp only [Act.put, List.setIfInBounds_toArray, List.set_cons_zero, List.set_cons_succ]
      refine wpAnyH_take (i := 9) (oi := { dst := some 39, op := Go.Op.load 24 (Go.Operand.tmp 5), type := 24, pos := "law.go:44", after := #[{ on := 7, ground := Go.Ground.guard }], guard := some (7, true) }) (v := ?v25) rfl (by kernel_rfl) (by kernel_rfl) (by kernel_rfl) (fun _ _ _ h => h) (Or.inl ⟨by rfl, ?y25⟩) (by assumption) ?z25
      case y25 => (intro w hSw; (try dsimp only at hSw); go_simp) <;> with_reducible rfl
      try simp only [Act.put, List.setIfInBounds_toArray, List.set_cons_zero, List.set_cons_succ]
      refine wpAnyH_take (i := 10) (oi := { dst := some 40, op := Go.Op.move (Go.Operand.tmp 2), type := 3, pos := "law.go:44", after := #[{ on := 7, ground := Go.Ground.guard }], guard := some (7, true) }) (v := ?v26) rfl (by kernel_rfl) (by kernel_rfl) (by kernel_rfl) (fun _ _ _ h => h) (Or.inl ⟨by rfl, ?y26⟩) (by assumption) ?z26
      case y26 => (intro w hSw; (try dsimp only at hSw); go_simp) <;> with_reducible rfl
      try simp only [Act.put, List.setIfInBounds_toArray, List.set_cons_zero, List.set_cons_succ]
      refine wpAnyH_ready (rs := [11]) (by kernel_rfl) (by simp) ?_
      refine (AllReadyH.cons (o := { dst := some 41, op := Go.Op.call { callee := Go.Callee.value (Go.Operand.func 23), args := #[Go.Operand.tmp 39, Go.Operand.tmp 40], argTypes := #[24, 3] }, type := 4, pos := "law.go:44", after := #[{ on := 9, ground := Go.Ground.data }, { on := 10, ground := Go.Ground.data }, { on := 7, ground := Go.Ground.chain }, { on := 7, ground := Go.Ground.guard }], guard := some (7, true) }) rfl (fun K hK => ?_) AllReadyH.nil)
      · skip
        go_simp
        with_reducible refine (SN.out _).mono ?_
        rintro q_ u7 ⟨rfl, hb⟩
        have B7 := Lib.hid (vian HN.out B6.out hb)
        have P7 := Lib.hid (P6.out.below hb)
        have L7 := Lib.hid (L6.out.below hb)
        clear hb
        clear B6 P6 L6
        refine hK.out _ _ ?s27 (fun hNew => ?r27)
        case s27 => exact ⟨P7.out.2.1, range_of_has L7.out⟩
        clear hK K hHeld
        have hHeld := hNew
        clear hNew
        refine wpAnyH_take (i := 12) (oi := { dst := some 42, op := Go.Op.binOp Go.BinOp.eql 4 (Go.Operand.tmp 38) (Go.Operand.tmp 41) 4, type := 4, pos := "law.go:44", after := #[{ on := 8, ground := Go.Ground.data }, { on := 11, ground := Go.Ground.data }, { on := 7, ground := Go.Ground.guard }], guard := some (7, true) }) (v := ?v28) rfl (by kernel_rfl) (by kernel_rfl) (by kernel_rfl) (fun _ _ _ h => h) (Or.inl ⟨by rfl, ?y28⟩) (by assumption) ?z28
        case y28 => (intro w hSw; (try dsimp only at hSw); go_simp) <;> with_reducible rfl
        try simp only [Act.put, List.setIfInBounds_toArray, List.set_cons_zero, List.set_cons_succ]
        refine wpAnyH_take (i := 13) (oi := { dst := some 43, op := Go.Op.pick (Go.Operand.tmp 37) (Go.Operand.tmp 42) (Go.Operand.const (Go.Value.bool false)), type := 4, pos := "law.go:44", after := #[{ on := 7, ground := Go.Ground.data }, { on := 12, ground := Go.Ground.data }], guard := none }) (v := ?v29) rfl (by kernel_rfl) (by kernel_rfl) (by kernel_rfl) (fun _ _ _ h => h) (Or.inl ⟨by rfl, ?y29⟩) (by assumption) ?z29
        case y29 => (intro w hSw; (try dsimp only at hSw); go_simp) <;> with_reducible rfl
        try simp only [Act.put, List.setIfInBounds_toArray, List.set_cons_zero, List.set_cons_succ]
        refine wpAnyH_take (i := 14) (oi := { dst := some 8, op := Go.Op.assign (Go.Operand.tmp 43), type := 4, pos := "law.go:44", after := #[{ on := 13, ground := Go.Ground.data }, { on := 11, ground := Go.Ground.chain }, { on := 0, ground := Go.Ground.phase }, { on := 1, ground := Go.Ground.phase }, { on := 2, ground := Go.Ground.phase }, { on := 3, ground := Go.Ground.phase }, { on := 4, ground := Go.Ground.phase }, { on := 5, ground := Go.Ground.phase }, { on := 6, ground := Go.Ground.phase }, { on := 7, ground := Go.Ground.phase }, { on := 8, ground := Go.Ground.phase }, { on := 9, ground := Go.Ground.phase }, { on := 10, ground := Go.Ground.phase }, { on := 11, ground := Go.Ground.phase }, { on := 12, ground := Go.Ground.phase }, { on := 13, ground := Go.Ground.phase }], guard := none }) (v := ?v30) rfl (by kernel_rfl) (by kernel_rfl) (by kernel_rfl) (fun _ _ _ h => h) (Or.inl ⟨by rfl, ?y30⟩) (by assumption) ?z30
        case y30 => (intro w hSw; (try dsimp only at hSw); go_simp) <;> with_reducible rfl
        try simp only [Act.put, List.setIfInBounds_toArray, List.set_cons_zero, List.set_cons_succ]
        refine wpAnyH_done (by kernel_rfl) ?_ _
        clear hHeld
        go_wp2_with (fail)
        all_goals exact bodyPost_ret (v := .bool true) (by simp [results, Try.results5, go_sem]) rfl ⟨rfl, ZF.out _ B7.out⟩
theorem lines_walk (c sx sy wx wy : Int) (c0 : 0 ≤ c) (c1 : c < 256) (sx0 : 0 ≤ sx) (sx1 : sx < 256) (sy0 : 0 ≤ sy) (sy1 : sy < 256) (wx0 : 0 ≤ wx) (wx1 : wx < 256) (wy0 : 0 ≤ wy) (wy1 : wy < 256) (b : Value) (line ow : Int) (line0 : -9223372036854775808 ≤ line) (line1 : line ≤ 9223372036854775807) (ow0 : -9223372036854775808 ≤ ow) (ow1 : ow ≤ 9223372036854775807) (w : World) (hin : MemIn w b) : Calls Try.prog 5 #[b, .agg #[.int .u8 c, .int .u8 sx, .int .u8 sy, .int .u8 wx, .int .u8 wy], .int .i64 line, .int .i64 ow] w fun q_ w' => q_ = .returned (.bool true) ∧ Below w.heap.size w w' := by
  obtain ⟨a, n, cp, rfl, h1, h2⟩ := hin
  by_cases h : 3000 < n
  · exact lines_long c sx sy wx wy c0 c1 sx0 sx1 sy0 sy1 wx0 wx1 wy0 wy1 a n cp line ow line0 line1 ow0 ow1 h w
  · obtain ⟨F, hF⟩ := h2 (by omega)
    exact lines_short c sx sy wx wy c0 c1 sx0 sx1 sy0 sy1 wx0 wx1 wy0 wy1 a n cp F line ow line0 line1 ow0 ow1 (by omega) w hF
end Go.Proofs.Ytgoagcombkamkaa
