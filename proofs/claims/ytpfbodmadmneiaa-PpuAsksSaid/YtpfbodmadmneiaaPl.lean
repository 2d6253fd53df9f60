/-
  A place of a map, as the program and as the document reckon it: for every view and every memory of at most 8192 bytes.
-/
import Derived.Test.YtpfbodmadmneiaaVw
import Derived.Deep.Cut
import Derived.BigQuiet
import Derived.WalkSmall
namespace Go.Proofs.Ytpfbodmadmneiaa
open Go.ChangeShapes Go.WideShapes Go.ChangeAt Go.RowKit
set_option linter.unusedVariables false
set_option linter.unusedSimpArgs false
set_option maxRecDepth 100000
set_option maxHeartbeats 2000000 in
theorem mapped_c (c sx sy wx wy : Int) (c0 : 0 ≤ c) (c1 : c < 256) (sx0 : 0 ≤ sx) (sx1 : sx < 256) (sy0 : 0 ≤ sy) (sy1 : sy < 256) (wx0 : 0 ≤ wx) (wx1 : wx < 256) (wy0 : 0 ≤ wy) (wy1 : wy < 256) (s : Value) (F : M) (st px py : Int) (s0 : 6144 ≤ st) (s1 : st ≤ 7168) (p0 : 0 ≤ px) (p1 : px < 256) (q0 : 0 ≤ py) (q1 : py < 256) (w : World) (hM0 : Mem w s F) : Calls Try.prog 77 #[.agg #[.int .u8 c, .int .u8 sx, .int .u8 sy, .int .u8 wx, .int .u8 wy], s, .int .i64 st, .int .u8 px, .int .u8 py] w fun q_ w' => q_ = .returned (.int .u8 (spotV F c st px py)) ∧ Below w.heap.size w w' := by
  suffices hall : ∀ (n_ : Nat) (W0 : World), n_ ≤ W0.heap.size → Below n_ W0 w → MemB n_ W0 s F → Calls Try.prog 77 #[.agg #[.int .u8 c, .int .u8 sx, .int .u8 sy, .int .u8 wx, .int .u8 wy], s, .int .i64 st, .int .u8 px, .int .u8 py] w fun q_ w' => q_ = .returned (.int .u8 (spotV F c st px py)) ∧ Below n_ W0 w' from hall _ _ (Nat.le_refl _) (Below.refl _ _) hM0
  clear hM0
  intro n_ W0 hn hB hM0
  have HN := Lib.hid hn
  have BB := Lib.hid hB
  clear hn hB
  have HM0 := Lib.hid hM0
  clear hM0
  obtain ⟨k, hk⟩ : ∃ k : Nat, (k : Int) = st + py / 8 * 32 + px / 8 := ⟨(st + py / 8 * 32 + px / 8).toNat, by omega⟩
  have k1 : k < 8192 := by omega
  have ev : spotV F c st px py = dotV F (numV c (F k)) px py := by
    unfold spotV
    rw [show (st + py / 8 * 32 + px / 8).toNat = k by omega]
  rw [ev]
  have bk := HM0.out.ok k
  have SA := Lib.hid (fun W h => at_c s F k k1 W h)
  rw [hk] at SA
  obtain ⟨b, hb⟩ : ∃ b, b = F k := ⟨_, rfl⟩
  rw [← hb] at SA bk ⊢
  have SN := Lib.hid (fun W => number_c c sx sy wx wy c0 c1 sx0 sx1 sy0 sy1 wx0 wx1 wy0 wy1 b bk.1 bk.2 W)
  obtain ⟨n, hn⟩ : ∃ b_, b_ = numV c b := ⟨_, rfl⟩
  rw [← hn] at SN ⊢
  have SD := Lib.hid (fun W h => dot_c s F n px py (by omega) (by omega) (by omega) (by omega) W h)
  have db := dotV_bd F n px py
  obtain ⟨d, hd⟩ : ∃ b_, b_ = dotV F n px py := ⟨_, rfl⟩
  rw [← hd] at SD db ⊢
  clear hb hn hd hk ev
  go_enter Try.func77, Try.ntmps77
  have Q_ := own1 w (.cells #[.int .u8 c, .int .u8 sx, .int .u8 sy, .int .u8 wx, .int .u8 wy] 80)
  have B0 := Lib.hid (vian HN.out BB.out Q_)
  have P0 := Lib.hid (show Has (w.alloc (.cells #[.int .u8 c, .int .u8 sx, .int .u8 sy, .int .u8 wx, .int .u8 wy] 80)) w.heap.size #[.int .u8 c, .int .u8 sx, .int .u8 sy, .int .u8 wx, .int .u8 wy] by simpa using Has.new w #[.int .u8 c, .int .u8 sx, .int .u8 sy, .int .u8 wx, .int .u8 wy] 80)
  have LP := Lib.hid (show n_ ≤ w.heap.size + 0 from Nat.le_add_right_of_le (Nat.le_trans HN.out BB.out.size))
  simp only [Nat.add_zero] at LP
  clear Q_
  go_upto_region 1 with (fail)
  generalize (w.alloc (.cells #[.int .u8 c, .int .u8 sx, .int .u8 sy, .int .u8 wx, .int .u8 wy] 80)) = u0 at B0 P0 ⊢
  generalize w.heap.size = pb at P0 LP  ⊢
  obtain ⟨hc0, hf0⟩ := P0.out.out
  go_wp2_with (fail)
  clear hc0 hf0
  with_reducible refine (SA.out _ (HM0.out.at HN.out B0.out)).mono ?_
  rintro q_ w' ⟨rfl, rfl⟩
  obtain ⟨hc0, hf0⟩ := P0.out.out
  go_wp2_with (fail)
  clear hc0 hf0
  with_reducible refine (SN.out _).mono ?_
  rintro q_ u1 ⟨rfl, hb⟩
  have B1 := Lib.hid (vian HN.out B0.out hb)
  have P1 := Lib.hid (P0.out.below hb)
  clear hb B0 P0
  obtain ⟨hc0, hf0⟩ := P1.out.out
  go_wp2_with (fail)
  clear hc0 hf0
  with_reducible refine (SD.out _ (HM0.out.at HN.out B1.out)).mono ?_
  rintro q_ w' ⟨rfl, rfl⟩
  go_wp2_with (fail)
  all_goals exact bodyPost_ret (v := .int .u8 d) (by simp [results, Try.results77, go_sem]) rfl ⟨rfl, B1.out⟩
set_option maxHeartbeats 2000000 in
theorem back_c (c sx sy wx wy : Int) (c0 : 0 ≤ c) (c1 : c < 256) (sx0 : 0 ≤ sx) (sx1 : sx < 256) (sy0 : 0 ≤ sy) (sy1 : sy < 256) (wx0 : 0 ≤ wx) (wx1 : wx < 256) (wy0 : 0 ≤ wy) (wy1 : wy < 256) (s : Value) (F : M) (x y : Int) (x0 : -9223372036854775808 ≤ x) (x1 : x ≤ 9223372036854775807) (y0 : -9223372036854775808 ≤ y) (y1 : y ≤ 9223372036854775807) (w : World) (hM0 : Mem w s F) : Calls Try.prog 70 #[.agg #[.int .u8 c, .int .u8 sx, .int .u8 sy, .int .u8 wx, .int .u8 wy], s, .int .i64 x, .int .i64 y] w fun q_ w' => q_ = .returned (.int .u8 (backV F c sx sy x y)) ∧ Below w.heap.size w w' := by
  suffices hall : ∀ (n_ : Nat) (W0 : World), n_ ≤ W0.heap.size → Below n_ W0 w → MemB n_ W0 s F → Calls Try.prog 70 #[.agg #[.int .u8 c, .int .u8 sx, .int .u8 sy, .int .u8 wx, .int .u8 wy], s, .int .i64 x, .int .i64 y] w fun q_ w' => q_ = .returned (.int .u8 (backV F c sx sy x y)) ∧ Below n_ W0 w' from hall _ _ (Nat.le_refl _) (Below.refl _ _) hM0
  clear hM0
  intro n_ W0 hn hB hM0
  have HN := Lib.hid hn
  have BB := Lib.hid hB
  clear hn hB
  have HM0 := Lib.hid hM0
  clear hM0
  have SM := Lib.hid (fun W => map3_c c sx sy wx wy c0 c1 sx0 sx1 sy0 sy1 wx0 wx1 wy0 wy1 W)
  have sb : 6144 ≤ mapV c 3 ∧ mapV c 3 ≤ 7168 := by unfold mapV; split <;> decide
  have ev : backV F c sx sy x y = spotV F c (mapV c 3) ((x % 256 + sx) % 256) ((y % 256 + sy) % 256) := by
    unfold backV
    rw [show (x % 256 + sx) % 256 = (x + sx) % 256 by omega, show (y % 256 + sy) % 256 = (y + sy) % 256 by omega]
  rw [ev]
  obtain ⟨st, hst⟩ : ∃ q_, q_ = mapV c 3 := ⟨_, rfl⟩
  rw [← hst] at SM sb ⊢
  have SP := Lib.hid (fun W h => mapped_c c sx sy wx wy c0 c1 sx0 sx1 sy0 sy1 wx0 wx1 wy0 wy1 s F st ((x % 256 + sx) % 256) ((y % 256 + sy) % 256) sb.1 sb.2 (by omega) (by omega) (by omega) (by omega) W h)
  obtain ⟨d, hd⟩ : ∃ q_, q_ = spotV F c st ((x % 256 + sx) % 256) ((y % 256 + sy) % 256) := ⟨_, rfl⟩
  rw [← hd] at SP ⊢
  rw [show (x % 256 + sx) % 256 = IntKind.u8.wrap (IntKind.u8.wrap x + sx) by simp only [IntKind.wrap_u8'], show (y % 256 + sy) % 256 = IntKind.u8.wrap (IntKind.u8.wrap y + sy) by simp only [IntKind.wrap_u8']] at SP
  clear hd hst ev
  go_enter Try.func70, Try.ntmps70
  have Q_ := own1 w (.cells #[.int .u8 c, .int .u8 sx, .int .u8 sy, .int .u8 wx, .int .u8 wy] 80)
  have B0 := Lib.hid (vian HN.out BB.out Q_)
  have P0 := Lib.hid (show Has (w.alloc (.cells #[.int .u8 c, .int .u8 sx, .int .u8 sy, .int .u8 wx, .int .u8 wy] 80)) w.heap.size #[.int .u8 c, .int .u8 sx, .int .u8 sy, .int .u8 wx, .int .u8 wy] by simpa using Has.new w #[.int .u8 c, .int .u8 sx, .int .u8 sy, .int .u8 wx, .int .u8 wy] 80)
  have LP := Lib.hid (show n_ ≤ w.heap.size + 0 from Nat.le_add_right_of_le (Nat.le_trans HN.out BB.out.size))
  simp only [Nat.add_zero] at LP
  clear Q_
  go_upto_region 1 with (fail)
  generalize (w.alloc (.cells #[.int .u8 c, .int .u8 sx, .int .u8 sy, .int .u8 wx, .int .u8 wy] 80)) = u0 at B0 P0 ⊢
  generalize w.heap.size = pb at P0 LP  ⊢
  have B1 := Lib.hid B0.out.drew
  have P1 := Lib.hid P0.out.drew
  clear B0 P0
  refine wp_region_held_drew (S := (fun w' => ∀ o, w'.cell? ⟨pb, o, none⟩ = (#[.int .u8 c, .int .u8 sx, .int .u8 sy, .int .u8 wx, .int .u8 wy])[o]?)) (by kernel_rfl) P1.out.2.1 (fun hHeld => ?_)
  generalize World.drew _ = u1 at hHeld B1 P1 ⊢
  refine wpAnyH_take (i := 0) (oi := { dst := some 9, op := Go.Op.load 80 (Go.Operand.tmp 4), type := 80, pos := "tiles.go:71", after := #[], guard := none }) (v := ?v1) rfl (by kernel_rfl) (by kernel_rfl) (by kernel_rfl) (fun _ _ _ h => h) (Or.inl ⟨by rfl, ?y1⟩) (by assumption) ?z1
  case y1 => (intro w hSw; (try dsimp only at hSw); go_simp) <;> with_reducible rfl
  try simp only [Act.put, List.setIfInBounds_toArray, List.set_cons_zero, List.set_cons_succ]
  refine wpAnyH_take (i := 1) (oi := { dst := some 10, op := Go.Op.move (Go.Operand.tmp 1), type := 31, pos := "tiles.go:71", after := #[], guard := none }) (v := ?v2) rfl (by kernel_rfl) (by kernel_rfl) (by kernel_rfl) (fun _ _ _ h => h) (Or.inl ⟨by rfl, ?y2⟩) (by assumption) ?z2
  case y2 => (intro w hSw; (try dsimp only at hSw); go_simp) <;> with_reducible rfl
  try simp only [Act.put, List.setIfInBounds_toArray, List.set_cons_zero, List.set_cons_succ]
  refine wpAnyH_take (i := 2) (oi := { dst := some 11, op := Go.Op.load 80 (Go.Operand.tmp 4), type := 80, pos := "tiles.go:71", after := #[], guard := none }) (v := ?v3) rfl (by kernel_rfl) (by kernel_rfl) (by kernel_rfl) (fun _ _ _ h => h) (Or.inl ⟨by rfl, ?y3⟩) (by assumption) ?z3
  case y3 => (intro w hSw; (try dsimp only at hSw); go_simp) <;> with_reducible rfl
  try simp only [Act.put, List.setIfInBounds_toArray, List.set_cons_zero, List.set_cons_succ]
  refine wpAnyH_take (i := 4) (oi := { dst := some 13, op := Go.Op.move (Go.Operand.tmp 2), type := 3, pos := "tiles.go:71", after := #[], guard := none }) (v := ?v4) rfl (by kernel_rfl) (by kernel_rfl) (by kernel_rfl) (fun _ _ _ h => h) (Or.inl ⟨by rfl, ?y4⟩) (by assumption) ?z4
  case y4 => (intro w hSw; (try dsimp only at hSw); go_simp) <;> with_reducible rfl
  try simp only [Act.put, List.setIfInBounds_toArray, List.set_cons_zero, List.set_cons_succ]
  refine wpAnyH_take (i := 5) (oi := { dst := some 14, op := Go.Op.convert 3 5 (Go.Operand.tmp 13), type := 5, pos := "tiles.go:71", after := #[{ on := 4, ground := Go.Ground.data }], guard := none }) (v := ?v5) rfl (by kernel_rfl) (by kernel_rfl) (by kernel_rfl) (fun _ _ _ h => h) (Or.inl ⟨by rfl, ?y5⟩) (by assumption) ?z5
  case y5 => (intro w hSw; (try dsimp only at hSw); go_simp) <;> with_reducible rfl
  try simp only [Act.put, List.setIfInBounds_toArray, List.set_cons_zero, List.set_cons_succ]
  refine wpAnyH_take (i := 6) (oi := { dst := some 15, op := Go.Op.fieldAddr 80 (Go.Operand.tmp 4) 1, type := 0, pos := "tiles.go:71", after := #[], guard := none }) (v := ?v6) rfl (by kernel_rfl) (by kernel_rfl) (by kernel_rfl) (fun _ _ _ h => h) (Or.inl ⟨by rfl, ?y6⟩) (by assumption) ?z6
  case y6 => (intro w hSw; (try dsimp only at hSw); go_simp) <;> with_reducible rfl
  try simp only [Act.put, List.setIfInBounds_toArray, List.set_cons_zero, List.set_cons_succ]
  refine wpAnyH_take (i := 7) (oi := { dst := some 16, op := Go.Op.load 5 (Go.Operand.tmp 15), type := 5, pos := "tiles.go:71", after := #[{ on := 6, ground := Go.Ground.data }], guard := none }) (v := ?v7) rfl (by kernel_rfl) (by kernel_rfl) (by kernel_rfl) (fun _ _ _ h => h) (Or.inl ⟨by rfl, ?y7⟩) (by assumption) ?z7
  case y7 => (intro w hSw; (try dsimp only at hSw); go_simp) <;> with_reducible rfl
  try simp only [Act.put, List.setIfInBounds_toArray, List.set_cons_zero, List.set_cons_succ]
  refine wpAnyH_take (i := 8) (oi := { dst := some 17, op := Go.Op.binOp Go.BinOp.add 5 (Go.Operand.tmp 14) (Go.Operand.tmp 16) 5, type := 5, pos := "tiles.go:71", after := #[{ on := 5, ground := Go.Ground.data }, { on := 7, ground := Go.Ground.data }], guard := none }) (v := ?v8) rfl (by kernel_rfl) (by kernel_rfl) (by kernel_rfl) (fun _ _ _ h => h) (Or.inl ⟨by rfl, ?y8⟩) (by assumption) ?z8
  case y8 => (intro w hSw; (try dsimp only at hSw); go_simp) <;> with_reducible rfl
  try simp only [Act.put, List.setIfInBounds_toArray, List.set_cons_zero, List.set_cons_succ]
  refine wpAnyH_take (i := 9) (oi := { dst := some 18, op := Go.Op.move (Go.Operand.tmp 3), type := 3, pos := "tiles.go:71", after := #[], guard := none }) (v := ?v9) rfl (by kernel_rfl) (by kernel_rfl) (by kernel_rfl) (fun _ _ _ h => h) (Or.inl ⟨by rfl, ?y9⟩) (by assumption) ?z9
  case y9 => (intro w hSw; (try dsimp only at hSw); go_simp) <;> with_reducible rfl
  try simp only [Act.put, List.setIfInBounds_toArray, List.set_cons_zero, List.set_cons_succ]
  refine wpAnyH_take (i := 10) (oi := { dst := some 19, op := Go.Op.convert 3 5 (Go.Operand.tmp 18), type := 5, pos := "tiles.go:71", after := #[{ on := 9, ground := Go.Ground.data }], guard := none }) (v := ?v10) rfl (by kernel_rfl) (by kernel_rfl) (by kernel_rfl) (fun _ _ _ h => h) (Or.inl ⟨by rfl, ?y10⟩) (by assumption) ?z10
  case y10 => (intro w hSw; (try dsimp only at hSw); go_simp) <;> with_reducible rfl
  try simp only [Act.put, List.setIfInBounds_toArray, List.set_cons_zero, List.set_cons_succ]
  refine wpAnyH_take (i := 11) (oi := { dst := some 20, op := Go.Op.fieldAddr 80 (Go.Operand.tmp 4) 2, type := 0, pos := "tiles.go:71", after := #[], guard := none }) (v := ?v11) rfl (by kernel_rfl) (by kernel_rfl) (by kernel_rfl) (fun _ _ _ h => h) (Or.inl ⟨by rfl, ?y11⟩) (by assumption) ?z11
  case y11 => (intro w hSw; (try dsimp only at hSw); go_simp) <;> with_reducible rfl
  try simp only [Act.put, List.setIfInBounds_toArray, List.set_cons_zero, List.set_cons_succ]
  refine wpAnyH_take (i := 12) (oi := { dst := some 21, op := Go.Op.load 5 (Go.Operand.tmp 20), type := 5, pos := "tiles.go:71", after := #[{ on := 11, ground := Go.Ground.data }], guard := none }) (v := ?v12) rfl (by kernel_rfl) (by kernel_rfl) (by kernel_rfl) (fun _ _ _ h => h) (Or.inl ⟨by rfl, ?y12⟩) (by assumption) ?z12
  case y12 => (intro w hSw; (try dsimp only at hSw); go_simp) <;> with_reducible rfl
  try simp only [Act.put, List.setIfInBounds_toArray, List.set_cons_zero, List.set_cons_succ]
  refine wpAnyH_take (i := 13) (oi := { dst := some 22, op := Go.Op.binOp Go.BinOp.add 5 (Go.Operand.tmp 19) (Go.Operand.tmp 21) 5, type := 5, pos := "tiles.go:71", after := #[{ on := 10, ground := Go.Ground.data }, { on := 12, ground := Go.Ground.data }], guard := none }) (v := ?v13) rfl (by kernel_rfl) (by kernel_rfl) (by kernel_rfl) (fun _ _ _ h => h) (Or.inl ⟨by rfl, ?y13⟩) (by assumption) ?z13
  case y13 => (intro w hSw; (try dsimp only at hSw); go_simp) <;> with_reducible rfl
  try simp only [Act.put, List.setIfInBounds_toArray, List.set_cons_zero, List.set_cons_succ]
  refine wpAnyH_ready (rs := [3]) (by kernel_rfl) (by simp) ?_
  refine (AllReadyH.cons (o := { dst := some 12, op := Go.Op.call { callee := Go.Callee.value (Go.Operand.func 78), args := #[Go.Operand.tmp 11, Go.Operand.const (Go.Value.int Go.IntKind.u8 8)], argTypes := #[80, 5] }, type := 3, pos := "tiles.go:71", after := #[{ on := 2, ground := Go.Ground.data }], guard := none }) rfl (fun K hK => ?_) AllReadyH.nil)
  · skip
    go_simp
    with_reducible refine (SM.out _).mono ?_
    rintro q_ u2 ⟨rfl, hb⟩
    have B2 := Lib.hid (vian HN.out B1.out hb)
    have P2 := Lib.hid (P1.out.below hb)
    clear hb
    clear B1 P1
    refine hK.out _ _ ?s14 (fun hNew => ?r14)
    case s14 => exact P2.out.2.1
    clear hK K hHeld
    have hHeld := hNew
    clear hNew
    refine wpAnyH_ready (rs := [14]) (by kernel_rfl) (by simp) ?_
    refine (AllReadyH.cons (o := { dst := some 23, op := Go.Op.call { callee := Go.Callee.value (Go.Operand.func 77), args := #[Go.Operand.tmp 9, Go.Operand.tmp 10, Go.Operand.tmp 12, Go.Operand.tmp 17, Go.Operand.tmp 22], argTypes := #[80, 31, 3, 5, 5] }, type := 5, pos := "tiles.go:71", after := #[{ on := 0, ground := Go.Ground.data }, { on := 1, ground := Go.Ground.data }, { on := 3, ground := Go.Ground.data }, { on := 8, ground := Go.Ground.data }, { on := 13, ground := Go.Ground.data }, { on := 3, ground := Go.Ground.chain }], guard := none }) rfl (fun K hK => ?_) AllReadyH.nil)
    · skip
      go_simp
      with_reducible refine (SP.out _ (HM0.out.at HN.out B2.out)).mono ?_
      rintro q_ u3 ⟨rfl, hb⟩
      have B3 := Lib.hid (vian HN.out B2.out hb)
      have P3 := Lib.hid (P2.out.below hb)
      clear hb
      clear B2 P2
      refine hK.out _ _ ?s15 (fun hNew => ?r15)
      case s15 => exact P3.out.2.1
      clear hK K hHeld
      have hHeld := hNew
      clear hNew
      refine wpAnyH_take (i := 15) (oi := { dst := some 8, op := Go.Op.assign (Go.Operand.tmp 23), type := 5, pos := "tiles.go:71", after := #[{ on := 14, ground := Go.Ground.data }, { on := 14, ground := Go.Ground.chain }, { on := 0, ground := Go.Ground.phase }, { on := 1, ground := Go.Ground.phase }, { on := 2, ground := Go.Ground.phase }, { on := 3, ground := Go.Ground.phase }, { on := 4, ground := Go.Ground.phase }, { on := 5, ground := Go.Ground.phase }, { on := 6, ground := Go.Ground.phase }, { on := 7, ground := Go.Ground.phase }, { on := 8, ground := Go.Ground.phase }, { on := 9, ground := Go.Ground.phase }, { on := 10, ground := Go.Ground.phase }, { on := 11, ground := Go.Ground.phase }, { on := 12, ground := Go.Ground.phase }, { on := 13, ground := Go.Ground.phase }, { on := 14, ground := Go.Ground.phase }], guard := none }) (v := ?v16) rfl (by kernel_rfl) (by kernel_rfl) (by kernel_rfl) (fun _ _ _ h => h) (Or.inl ⟨by rfl, ?y16⟩) (by assumption) ?z16
      case y16 => (intro w hSw; (try dsimp only at hSw); go_simp) <;> with_reducible rfl
      try simp only [Act.put, List.setIfInBounds_toArray, List.set_cons_zero, List.set_cons_succ]
      refine wpAnyH_done (by kernel_rfl) ?_ _
      clear hHeld
      go_wp2_with (fail)
      all_goals exact bodyPost_ret (v := .int .u8 d) (by simp [results, Try.results70, go_sem]) rfl ⟨rfl, B3.out⟩
set_option maxHeartbeats 2000000 in
theorem win_c (c sx sy wx wy : Int) (c0 : 0 ≤ c) (c1 : c < 256) (sx0 : 0 ≤ sx) (sx1 : sx < 256) (sy0 : 0 ≤ sy) (sy1 : sy < 256) (wx0 : 0 ≤ wx) (wx1 : wx < 256) (wy0 : 0 ≤ wy) (wy1 : wy < 256) (s : Value) (F : M) (x y : Int) (x0 : -9223372036854775808 ≤ x) (x1 : x ≤ 9223372036854775807) (y0 : -9223372036854775808 ≤ y) (y1 : y ≤ 9223372036854775807) (w : World) (hM0 : Mem w s F) : Calls Try.prog 69 #[.agg #[.int .u8 c, .int .u8 sx, .int .u8 sy, .int .u8 wx, .int .u8 wy], s, .int .i64 x, .int .i64 y] w fun q_ w' => q_ = .returned (.int .u8 (winV F c x y)) ∧ Below w.heap.size w w' := by
  suffices hall : ∀ (n_ : Nat) (W0 : World), n_ ≤ W0.heap.size → Below n_ W0 w → MemB n_ W0 s F → Calls Try.prog 69 #[.agg #[.int .u8 c, .int .u8 sx, .int .u8 sy, .int .u8 wx, .int .u8 wy], s, .int .i64 x, .int .i64 y] w fun q_ w' => q_ = .returned (.int .u8 (winV F c x y)) ∧ Below n_ W0 w' from hall _ _ (Nat.le_refl _) (Below.refl _ _) hM0
  clear hM0
  intro n_ W0 hn hB hM0
  have HN := Lib.hid hn
  have BB := Lib.hid hB
  clear hn hB
  have HM0 := Lib.hid hM0
  clear hM0
  have SM := Lib.hid (fun W => map6_c c sx sy wx wy c0 c1 sx0 sx1 sy0 sy1 wx0 wx1 wy0 wy1 W)
  have sb : 6144 ≤ mapV c 6 ∧ mapV c 6 ≤ 7168 := by unfold mapV; split <;> decide
  have ev : winV F c x y = spotV F c (mapV c 6) (x % 256) (y % 256) := by
    unfold winV
    rfl
  rw [ev]
  obtain ⟨st, hst⟩ : ∃ q_, q_ = mapV c 6 := ⟨_, rfl⟩
  rw [← hst] at SM sb ⊢
  have SP := Lib.hid (fun W h => mapped_c c sx sy wx wy c0 c1 sx0 sx1 sy0 sy1 wx0 wx1 wy0 wy1 s F st (x % 256) (y % 256) sb.1 sb.2 (by omega) (by omega) (by omega) (by omega) W h)
  obtain ⟨d, hd⟩ : ∃ q_, q_ = spotV F c st (x % 256) (y % 256) := ⟨_, rfl⟩
  rw [← hd] at SP ⊢
  rw [show x % 256 = IntKind.u8.wrap x by simp only [IntKind.wrap_u8'], show y % 256 = IntKind.u8.wrap y by simp only [IntKind.wrap_u8']] at SP
  clear hd hst ev
  go_enter Try.func69, Try.ntmps69
  have Q_ := own1 w (.cells #[.int .u8 c, .int .u8 sx, .int .u8 sy, .int .u8 wx, .int .u8 wy] 80)
  have B0 := Lib.hid (vian HN.out BB.out Q_)
  have P0 := Lib.hid (show Has (w.alloc (.cells #[.int .u8 c, .int .u8 sx, .int .u8 sy, .int .u8 wx, .int .u8 wy] 80)) w.heap.size #[.int .u8 c, .int .u8 sx, .int .u8 sy, .int .u8 wx, .int .u8 wy] by simpa using Has.new w #[.int .u8 c, .int .u8 sx, .int .u8 sy, .int .u8 wx, .int .u8 wy] 80)
  have LP := Lib.hid (show n_ ≤ w.heap.size + 0 from Nat.le_add_right_of_le (Nat.le_trans HN.out BB.out.size))
  simp only [Nat.add_zero] at LP
  clear Q_
  go_upto_region 1 with (fail)
  generalize (w.alloc (.cells #[.int .u8 c, .int .u8 sx, .int .u8 sy, .int .u8 wx, .int .u8 wy] 80)) = u0 at B0 P0 ⊢
  generalize w.heap.size = pb at P0 LP  ⊢
  have B1 := Lib.hid B0.out.drew
  have P1 := Lib.hid P0.out.drew
  clear B0 P0
  refine wp_region_held_drew (S := (fun w' => ∀ o, w'.cell? ⟨pb, o, none⟩ = (#[.int .u8 c, .int .u8 sx, .int .u8 sy, .int .u8 wx, .int .u8 wy])[o]?)) (by kernel_rfl) P1.out.2.1 (fun hHeld => ?_)
  generalize World.drew _ = u1 at hHeld B1 P1 ⊢
  refine wpAnyH_take (i := 0) (oi := { dst := some 9, op := Go.Op.load 80 (Go.Operand.tmp 4), type := 80, pos := "tiles.go:76", after := #[], guard := none }) (v := ?v17) rfl (by kernel_rfl) (by kernel_rfl) (by kernel_rfl) (fun _ _ _ h => h) (Or.inl ⟨by rfl, ?y17⟩) (by assumption) ?z17
  case y17 => (intro w hSw; (try dsimp only at hSw); go_simp) <;> with_reducible rfl
  try simp only [Act.put, List.setIfInBounds_toArray, List.set_cons_zero, List.set_cons_succ]
  refine wpAnyH_take (i := 1) (oi := { dst := some 10, op := Go.Op.move (Go.Operand.tmp 1), type := 31, pos := "tiles.go:76", after := #[], guard := none }) (v := ?v18) rfl (by kernel_rfl) (by kernel_rfl) (by kernel_rfl) (fun _ _ _ h => h) (Or.inl ⟨by rfl, ?y18⟩) (by assumption) ?z18
  case y18 => (intro w hSw; (try dsimp only at hSw); go_simp) <;> with_reducible rfl
  try simp only [Act.put, List.setIfInBounds_toArray, List.set_cons_zero, List.set_cons_succ]
  refine wpAnyH_take (i := 2) (oi := { dst := some 11, op := Go.Op.load 80 (Go.Operand.tmp 4), type := 80, pos := "tiles.go:76", after := #[], guard := none }) (v := ?v19) rfl (by kernel_rfl) (by kernel_rfl) (by kernel_rfl) (fun _ _ _ h => h) (Or.inl ⟨by rfl, ?y19⟩) (by assumption) ?z19
  case y19 => (intro w hSw; (try dsimp only at hSw); go_simp) <;> with_reducible rfl
  try simp only [Act.put, List.setIfInBounds_toArray, List.set_cons_zero, List.set_cons_succ]
  refine wpAnyH_take (i := 4) (oi := { dst := some 13, op := Go.Op.move (Go.Operand.tmp 2), type := 3, pos := "tiles.go:76", after := #[], guard := none }) (v := ?v20) rfl (by kernel_rfl) (by kernel_rfl) (by kernel_rfl) (fun _ _ _ h => h) (Or.inl ⟨by rfl, ?y20⟩) (by assumption) ?z20
  case y20 => (intro w hSw; (try dsimp only at hSw); go_simp) <;> with_reducible rfl
  try simp only [Act.put, List.setIfInBounds_toArray, List.set_cons_zero, List.set_cons_succ]
  refine wpAnyH_take (i := 5) (oi := { dst := some 14, op := Go.Op.convert 3 5 (Go.Operand.tmp 13), type := 5, pos := "tiles.go:76", after := #[{ on := 4, ground := Go.Ground.data }], guard := none }) (v := ?v21) rfl (by kernel_rfl) (by kernel_rfl) (by kernel_rfl) (fun _ _ _ h => h) (Or.inl ⟨by rfl, ?y21⟩) (by assumption) ?z21
  case y21 => (intro w hSw; (try dsimp only at hSw); go_simp) <;> with_reducible rfl
  try simp only [Act.put, List.setIfInBounds_toArray, List.set_cons_zero, List.set_cons_succ]
  refine wpAnyH_take (i := 6) (oi := { dst := some 15, op := Go.Op.move (Go.Operand.tmp 3), type := 3, pos := "tiles.go:76", after := #[], guard := none }) (v := ?v22) rfl (by kernel_rfl) (by kernel_rfl) (by kernel_rfl) (fun _ _ _ h => h) (Or.inl ⟨by rfl, ?y22⟩) (by assumption) ?z22
  case y22 => (intro w hSw; (try dsimp only at hSw); go_simp) <;> with_reducible rfl
  try simp only [Act.put, List.setIfInBounds_toArray, List.set_cons_zero, List.set_cons_succ]
  refine wpAnyH_take (i := 7) (oi := { dst := some 16, op := Go.Op.convert 3 5 (Go.Operand.tmp 15), type := 5, pos := "tiles.go:76", after := #[{ on := 6, ground := Go.Ground.data }], guard := none }) (v := ?v23) rfl (by kernel_rfl) (by kernel_rfl) (by kernel_rfl) (fun _ _ _ h => h) (Or.inl ⟨by rfl, ?y23⟩) (by assumption) ?z23
  case y23 => (intro w hSw; (try dsimp only at hSw); go_simp) <;> with_reducible rfl
  try simp only [Act.put, List.setIfInBounds_toArray, List.set_cons_zero, List.set_cons_succ]
  refine wpAnyH_ready (rs := [3]) (by kernel_rfl) (by simp) ?_
  refine (AllReadyH.cons (o := { dst := some 12, op := Go.Op.call { callee := Go.Callee.value (Go.Operand.func 78), args := #[Go.Operand.tmp 11, Go.Operand.const (Go.Value.int Go.IntKind.u8 64)], argTypes := #[80, 5] }, type := 3, pos := "tiles.go:76", after := #[{ on := 2, ground := Go.Ground.data }], guard := none }) rfl (fun K hK => ?_) AllReadyH.nil)
  · skip
    go_simp
    with_reducible refine (SM.out _).mono ?_
    rintro q_ u2 ⟨rfl, hb⟩
    have B2 := Lib.hid (vian HN.out B1.out hb)
    have P2 := Lib.hid (P1.out.below hb)
    clear hb
    clear B1 P1
    refine hK.out _ _ ?s24 (fun hNew => ?r24)
    case s24 => exact P2.out.2.1
    clear hK K hHeld
    have hHeld := hNew
    clear hNew
    refine wpAnyH_ready (rs := [8]) (by kernel_rfl) (by simp) ?_
    refine (AllReadyH.cons (o := { dst := some 17, op := Go.Op.call { callee := Go.Callee.value (Go.Operand.func 77), args := #[Go.Operand.tmp 9, Go.Operand.tmp 10, Go.Operand.tmp 12, Go.Operand.tmp 14, Go.Operand.tmp 16], argTypes := #[80, 31, 3, 5, 5] }, type := 5, pos := "tiles.go:76", after := #[{ on := 0, ground := Go.Ground.data }, { on := 1, ground := Go.Ground.data }, { on := 3, ground := Go.Ground.data }, { on := 5, ground := Go.Ground.data }, { on := 7, ground := Go.Ground.data }, { on := 3, ground := Go.Ground.chain }], guard := none }) rfl (fun K hK => ?_) AllReadyH.nil)
    · skip
      go_simp
      with_reducible refine (SP.out _ (HM0.out.at HN.out B2.out)).mono ?_
      rintro q_ u3 ⟨rfl, hb⟩
      have B3 := Lib.hid (vian HN.out B2.out hb)
      have P3 := Lib.hid (P2.out.below hb)
      clear hb
      clear B2 P2
      refine hK.out _ _ ?s25 (fun hNew => ?r25)
      case s25 => exact P3.out.2.1
      clear hK K hHeld
      have hHeld := hNew
      clear hNew
      refine wpAnyH_take (i := 9) (oi := { dst := some 8, op := Go.Op.assign (Go.Operand.tmp 17), type := 5, pos := "tiles.go:76", after := #[{ on := 8, ground := Go.Ground.data }, { on := 8, ground := Go.Ground.chain }, { on := 0, ground := Go.Ground.phase }, { on := 1, ground := Go.Ground.phase }, { on := 2, ground := Go.Ground.phase }, { on := 3, ground := Go.Ground.phase }, { on := 4, ground := Go.Ground.phase }, { on := 5, ground := Go.Ground.phase }, { on := 6, ground := Go.Ground.phase }, { on := 7, ground := Go.Ground.phase }, { on := 8, ground := Go.Ground.phase }], guard := none }) (v := ?v26) rfl (by kernel_rfl) (by kernel_rfl) (by kernel_rfl) (fun _ _ _ h => h) (Or.inl ⟨by rfl, ?y26⟩) (by assumption) ?z26
      case y26 => (intro w hSw; (try dsimp only at hSw); go_simp) <;> with_reducible rfl
      try simp only [Act.put, List.setIfInBounds_toArray, List.set_cons_zero, List.set_cons_succ]
      refine wpAnyH_done (by kernel_rfl) ?_ _
      clear hHeld
      go_wp2_with (fail)
      all_goals exact bodyPost_ret (v := .int .u8 d) (by simp [results, Try.results69, go_sem]) rfl ⟨rfl, B3.out⟩
set_option maxHeartbeats 2000000 in
theorem spot_c (c sx sy wx wy : Int) (c0 : 0 ≤ c) (c1 : c < 256) (sx0 : 0 ≤ sx) (sx1 : sx < 256) (sy0 : 0 ≤ sy) (sy1 : sy < 256) (wx0 : 0 ≤ wx) (wx1 : wx < 256) (wy0 : 0 ≤ wy) (wy1 : wy < 256) (s : Value) (F : M) (o : Bool) (x y : Int) (x0 : -9223372036854775808 ≤ x) (x1 : x ≤ 9223372036854775807) (y0 : -9223372036854775808 ≤ y) (y1 : y ≤ 9223372036854775807) (w : World) (hM0 : Mem w s F) : Calls Try.prog 75 #[.agg #[.int .u8 c, .int .u8 sx, .int .u8 sy, .int .u8 wx, .int .u8 wy], s, .bool o, .int .i64 x, .int .i64 y] w fun q_ w' => q_ = .returned (.int .u8 (spotV F c (if o = true then 7168 else 6144) (x % 256) (y % 256))) ∧ Below w.heap.size w w' := by
  suffices hall : ∀ (n_ : Nat) (W0 : World), n_ ≤ W0.heap.size → Below n_ W0 w → MemB n_ W0 s F → Calls Try.prog 75 #[.agg #[.int .u8 c, .int .u8 sx, .int .u8 sy, .int .u8 wx, .int .u8 wy], s, .bool o, .int .i64 x, .int .i64 y] w fun q_ w' => q_ = .returned (.int .u8 (spotV F c (if o = true then 7168 else 6144) (x % 256) (y % 256))) ∧ Below n_ W0 w' from hall _ _ (Nat.le_refl _) (Below.refl _ _) hM0
  clear hM0
  intro n_ W0 hn hB hM0
  have HN := Lib.hid hn
  have BB := Lib.hid hB
  clear hn hB
  have HM0 := Lib.hid hM0
  clear hM0
  have SX := Lib.hid (fun W => mod256_c x x0 x1 W)
  have SY := Lib.hid (fun W => mod256_c y y0 y1 W)
  have p0 : 0 ≤ x % 256 ∧ x % 256 < 256 := by omega
  have q0 : 0 ≤ y % 256 ∧ y % 256 < 256 := by omega
  obtain ⟨px, hpx⟩ : ∃ q_, q_ = x % 256 := ⟨_, rfl⟩
  obtain ⟨py, hpy⟩ : ∃ q_, q_ = y % 256 := ⟨_, rfl⟩
  rw [← hpx] at SX p0 ⊢
  rw [← hpy] at SY q0 ⊢
  clear hpx hpy
  cases o
  · skip
    have HST : ∃ q_ : Int, q_ = 6144 := ⟨_, rfl⟩
    obtain ⟨st, hst⟩ := HST
    have hs0 : 6144 ≤ st ∧ st ≤ 7168 := by omega
    rw [show (if (false : Bool) = true then (7168 : Int) else 6144) = st by rw [hst]; rfl]
    obtain ⟨k, hk⟩ : ∃ k : Nat, (k : Int) = 6144 + 32 * (py / 8) + px / 8 := ⟨(6144 + 32 * (py / 8) + px / 8).toNat, by omega⟩
    have k1 : k < 8192 := by omega
    have ev : spotV F c st px py = dotV F (numV c (F k)) px py := by
      unfold spotV
      rw [show (st + py / 8 * 32 + px / 8).toNat = k by omega]
    rw [ev]
    have bk := HM0.out.ok k
    have SA := Lib.hid (fun W h => rat_c s F k k1 W h)
    rw [hk, show 6144 + 32 * (py / 8) + px / 8 = IntKind.i64.wrap (IntKind.i64.wrap (6144 + IntKind.i64.wrap (32 * IntKind.i64.wrap (py.tdiv 8))) + IntKind.i64.wrap (px.tdiv 8)) by rw [Int.tdiv_eq_ediv_of_nonneg q0.1, Int.tdiv_eq_ediv_of_nonneg p0.1]; simp only [IntKind.wrap_i64]; omega] at SA
    obtain ⟨b, hb⟩ : ∃ b, b = F k := ⟨_, rfl⟩
    rw [← hb] at SA bk ⊢
    have SN := Lib.hid (fun W => rnumber_c c sx sy wx wy c0 c1 sx0 sx1 sy0 sy1 wx0 wx1 wy0 wy1 b bk.1 bk.2 W)
    obtain ⟨n, hn⟩ : ∃ b_, b_ = numV c b := ⟨_, rfl⟩
    rw [← hn] at SN ⊢
    have SD := Lib.hid (fun W h => rdot_c s F n px py (by omega) (by omega) (by omega) (by omega) W h)
    have db := dotV_bd F n px py
    obtain ⟨d, hd⟩ : ∃ b_, b_ = dotV F n px py := ⟨_, rfl⟩
    rw [← hd] at SD db ⊢
    clear hb hn hd hk ev hst hs0
    go_enter Try.func75, Try.ntmps75
    have Q_ := own1 w (.cells #[.int .u8 c, .int .u8 sx, .int .u8 sy, .int .u8 wx, .int .u8 wy] 72)
    have B0 := Lib.hid (vian HN.out BB.out Q_)
    have P0 := Lib.hid (show Has (w.alloc (.cells #[.int .u8 c, .int .u8 sx, .int .u8 sy, .int .u8 wx, .int .u8 wy] 72)) w.heap.size #[.int .u8 c, .int .u8 sx, .int .u8 sy, .int .u8 wx, .int .u8 wy] by simpa using Has.new w #[.int .u8 c, .int .u8 sx, .int .u8 sy, .int .u8 wx, .int .u8 wy] 72)
    have LP := Lib.hid (show n_ ≤ w.heap.size + 0 from Nat.le_add_right_of_le (Nat.le_trans HN.out BB.out.size))
    simp only [Nat.add_zero] at LP
    clear Q_
    go_upto_region 1 with (fail)
    generalize (w.alloc (.cells #[.int .u8 c, .int .u8 sx, .int .u8 sy, .int .u8 wx, .int .u8 wy] 72)) = u0 at B0 P0 ⊢
    generalize w.heap.size = pb at P0 LP  ⊢
    go_wp2_with (fail)
    with_reducible refine (SX.out _).mono ?_
    rintro q_ w' ⟨rfl, rfl⟩
    go_wp2_with (fail)
    with_reducible refine (SY.out _).mono ?_
    rintro q_ w' ⟨rfl, rfl⟩
    go_upto_region 5 with (fail)
    have B1 := Lib.hid B0.out.drew
    have P1 := Lib.hid P0.out.drew
    clear B0 P0
    refine wp_region_held_drew (S := (fun w' => ∀ o, w'.cell? ⟨pb, o, none⟩ = (#[.int .u8 c, .int .u8 sx, .int .u8 sy, .int .u8 wx, .int .u8 wy])[o]?)) (by kernel_rfl) P1.out.2.1 (fun hHeld => ?_)
    generalize World.drew _ = u1 at hHeld B1 P1 ⊢
    refine wpAnyH_take (i := 0) (oi := { dst := some 17, op := Go.Op.move (Go.Operand.tmp 1), type := 31, pos := "ref.go:55", after := #[], guard := none }) (v := ?v27) rfl (by kernel_rfl) (by kernel_rfl) (by kernel_rfl) (fun _ _ _ h => h) (Or.inl ⟨by rfl, ?y27⟩) (by assumption) ?z27
    case y27 => (intro w hSw; (try dsimp only at hSw); go_simp) <;> with_reducible rfl
    try simp only [Act.put, List.setIfInBounds_toArray, List.set_cons_zero, List.set_cons_succ]
    refine wpAnyH_take (i := 1) (oi := { dst := some 18, op := Go.Op.load 72 (Go.Operand.tmp 5), type := 72, pos := "ref.go:55", after := #[], guard := none }) (v := ?v28) rfl (by kernel_rfl) (by kernel_rfl) (by kernel_rfl) (fun _ _ _ h => h) (Or.inl ⟨by rfl, ?y28⟩) (by assumption) ?z28
    case y28 => (intro w hSw; (try dsimp only at hSw); go_simp) <;> with_reducible rfl
    try simp only [Act.put, List.setIfInBounds_toArray, List.set_cons_zero, List.set_cons_succ]
    refine wpAnyH_take (i := 2) (oi := { dst := some 19, op := Go.Op.move (Go.Operand.tmp 1), type := 31, pos := "ref.go:55", after := #[], guard := none }) (v := ?v29) rfl (by kernel_rfl) (by kernel_rfl) (by kernel_rfl) (fun _ _ _ h => h) (Or.inl ⟨by rfl, ?y29⟩) (by assumption) ?z29
    case y29 => (intro w hSw; (try dsimp only at hSw); go_simp) <;> with_reducible rfl
    try simp only [Act.put, List.setIfInBounds_toArray, List.set_cons_zero, List.set_cons_succ]
    refine wpAnyH_take (i := 3) (oi := { dst := some 20, op := Go.Op.move (Go.Operand.tmp 11), type := 3, pos := "ref.go:55", after := #[], guard := none }) (v := ?v30) rfl (by kernel_rfl) (by kernel_rfl) (by kernel_rfl) (fun _ _ _ h => h) (Or.inl ⟨by rfl, ?y30⟩) (by assumption) ?z30
    case y30 => (intro w hSw; (try dsimp only at hSw); go_simp) <;> with_reducible rfl
    try simp only [Act.put, List.setIfInBounds_toArray, List.set_cons_zero, List.set_cons_succ]
    refine wpAnyH_take (i := 4) (oi := { dst := some 21, op := Go.Op.move (Go.Operand.tmp 4), type := 3, pos := "ref.go:55", after := #[], guard := none }) (v := ?v31) rfl (by kernel_rfl) (by kernel_rfl) (by kernel_rfl) (fun _ _ _ h => h) (Or.inl ⟨by rfl, ?y31⟩) (by assumption) ?z31
    case y31 => (intro w hSw; (try dsimp only at hSw); go_simp) <;> with_reducible rfl
    try simp only [Act.put, List.setIfInBounds_toArray, List.set_cons_zero, List.set_cons_succ]
    refine wpAnyH_take (i := 5) (oi := { dst := some 22, op := Go.Op.binOp Go.BinOp.quo 3 (Go.Operand.tmp 21) (Go.Operand.const (Go.Value.int Go.IntKind.i64 8)) 3, type := 3, pos := "ref.go:55", after := #[{ on := 4, ground := Go.Ground.data }], guard := none }) (v := ?v32) rfl (by kernel_rfl) (by kernel_rfl) (by kernel_rfl) (fun _ _ _ h => h) (Or.inl ⟨by rfl, ?y32⟩) (by assumption) ?z32
    case y32 => (intro w hSw; (try dsimp only at hSw); go_simp) <;> with_reducible rfl
    try simp only [Act.put, List.setIfInBounds_toArray, List.set_cons_zero, List.set_cons_succ]
    refine wpAnyH_take (i := 6) (oi := { dst := some 23, op := Go.Op.binOp Go.BinOp.mul 3 (Go.Operand.const (Go.Value.int Go.IntKind.i64 32)) (Go.Operand.tmp 22) 3, type := 3, pos := "ref.go:55", after := #[{ on := 5, ground := Go.Ground.data }], guard := none }) (v := ?v33) rfl (by kernel_rfl) (by kernel_rfl) (by kernel_rfl) (fun _ _ _ h => h) (Or.inl ⟨by rfl, ?y33⟩) (by assumption) ?z33
    case y33 => (intro w hSw; (try dsimp only at hSw); go_simp) <;> with_reducible rfl
    try simp only [Act.put, List.setIfInBounds_toArray, List.set_cons_zero, List.set_cons_succ]
    refine wpAnyH_take (i := 7) (oi := { dst := some 24, op := Go.Op.binOp Go.BinOp.add 3 (Go.Operand.tmp 20) (Go.Operand.tmp 23) 3, type := 3, pos := "ref.go:55", after := #[{ on := 3, ground := Go.Ground.data }, { on := 6, ground := Go.Ground.data }], guard := none }) (v := ?v34) rfl (by kernel_rfl) (by kernel_rfl) (by kernel_rfl) (fun _ _ _ h => h) (Or.inl ⟨by rfl, ?y34⟩) (by assumption) ?z34
    case y34 => (intro w hSw; (try dsimp only at hSw); go_simp) <;> with_reducible rfl
    try simp only [Act.put, List.setIfInBounds_toArray, List.set_cons_zero, List.set_cons_succ]
    refine wpAnyH_take (i := 8) (oi := { dst := some 25, op := Go.Op.move (Go.Operand.tmp 3), type := 3, pos := "ref.go:55", after := #[], guard := none }) (v := ?v35) rfl (by kernel_rfl) (by kernel_rfl) (by kernel_rfl) (fun _ _ _ h => h) (Or.inl ⟨by rfl, ?y35⟩) (by assumption) ?z35
    case y35 => (intro w hSw; (try dsimp only at hSw); go_simp) <;> with_reducible rfl
    try simp only [Act.put, List.setIfInBounds_toArray, List.set_cons_zero, List.set_cons_succ]
    refine wpAnyH_take (i := 9) (oi := { dst := some 26, op := Go.Op.binOp Go.BinOp.quo 3 (Go.Operand.tmp 25) (Go.Operand.const (Go.Value.int Go.IntKind.i64 8)) 3, type := 3, pos := "ref.go:55", after := #[{ on := 8, ground := Go.Ground.data }], guard := none }) (v := ?v36) rfl (by kernel_rfl) (by kernel_rfl) (by kernel_rfl) (fun _ _ _ h => h) (Or.inl ⟨by rfl, ?y36⟩) (by assumption) ?z36
    case y36 => (intro w hSw; (try dsimp only at hSw); go_simp) <;> with_reducible rfl
    try simp only [Act.put, List.setIfInBounds_toArray, List.set_cons_zero, List.set_cons_succ]
    refine wpAnyH_take (i := 10) (oi := { dst := some 27, op := Go.Op.binOp Go.BinOp.add 3 (Go.Operand.tmp 24) (Go.Operand.tmp 26) 3, type := 3, pos := "ref.go:55", after := #[{ on := 7, ground := Go.Ground.data }, { on := 9, ground := Go.Ground.data }], guard := none }) (v := ?v37) rfl (by kernel_rfl) (by kernel_rfl) (by kernel_rfl) (fun _ _ _ h => h) (Or.inl ⟨by rfl, ?y37⟩) (by assumption) ?z37
    case y37 => (intro w hSw; (try dsimp only at hSw); go_simp) <;> with_reducible rfl
    try simp only [Act.put, List.setIfInBounds_toArray, List.set_cons_zero, List.set_cons_succ]
    refine wpAnyH_take (i := 13) (oi := { dst := some 30, op := Go.Op.move (Go.Operand.tmp 3), type := 3, pos := "ref.go:55", after := #[], guard := none }) (v := ?v38) rfl (by kernel_rfl) (by kernel_rfl) (by kernel_rfl) (fun _ _ _ h => h) (Or.inl ⟨by rfl, ?y38⟩) (by assumption) ?z38
    case y38 => (intro w hSw; (try dsimp only at hSw); go_simp) <;> with_reducible rfl
    try simp only [Act.put, List.setIfInBounds_toArray, List.set_cons_zero, List.set_cons_succ]
    refine wpAnyH_take (i := 14) (oi := { dst := some 31, op := Go.Op.move (Go.Operand.tmp 4), type := 3, pos := "ref.go:55", after := #[], guard := none }) (v := ?v39) rfl (by kernel_rfl) (by kernel_rfl) (by kernel_rfl) (fun _ _ _ h => h) (Or.inl ⟨by rfl, ?y39⟩) (by assumption) ?z39
    case y39 => (intro w hSw; (try dsimp only at hSw); go_simp) <;> with_reducible rfl
    try simp only [Act.put, List.setIfInBounds_toArray, List.set_cons_zero, List.set_cons_succ]
    refine wpAnyH_ready (rs := [11]) (by kernel_rfl) (by simp) ?_
    refine (AllReadyH.cons (o := { dst := some 28, op := Go.Op.call { callee := Go.Callee.value (Go.Operand.func 85), args := #[Go.Operand.tmp 19, Go.Operand.tmp 27], argTypes := #[31, 3] }, type := 5, pos := "ref.go:55", after := #[{ on := 2, ground := Go.Ground.data }, { on := 10, ground := Go.Ground.data }], guard := none }) rfl (fun K hK => ?_) AllReadyH.nil)
    · skip
      go_simp
      with_reducible refine (SA.out _ (HM0.out.at HN.out B1.out)).mono ?_
      rintro q_ u2 ⟨rfl, hb⟩
      subst hb
      have B2 := B1
      have P2 := P1
      clear B1 P1
      refine hK.out _ _ ?s40 (fun hNew => ?r40)
      case s40 => exact P2.out.2.1
      clear hK K hHeld
      have hHeld := hNew
      clear hNew
      refine wpAnyH_ready (rs := [12]) (by kernel_rfl) (by simp) ?_
      refine (AllReadyH.cons (o := { dst := some 29, op := Go.Op.call { callee := Go.Callee.value (Go.Operand.func 86), args := #[Go.Operand.tmp 18, Go.Operand.tmp 28], argTypes := #[72, 5] }, type := 3, pos := "ref.go:55", after := #[{ on := 1, ground := Go.Ground.data }, { on := 11, ground := Go.Ground.data }, { on := 11, ground := Go.Ground.chain }], guard := none }) rfl (fun K hK => ?_) AllReadyH.nil)
      · skip
        go_simp
        with_reducible refine (SN.out _).mono ?_
        rintro q_ u3 ⟨rfl, hb⟩
        have B3 := Lib.hid (vian HN.out B2.out hb)
        have P3 := Lib.hid (P2.out.below hb)
        clear hb
        clear B2 P2
        refine hK.out _ _ ?s41 (fun hNew => ?r41)
        case s41 => exact P3.out.2.1
        clear hK K hHeld
        have hHeld := hNew
        clear hNew
        refine wpAnyH_ready (rs := [15]) (by kernel_rfl) (by simp) ?_
        refine (AllReadyH.cons (o := { dst := some 32, op := Go.Op.call { callee := Go.Callee.value (Go.Operand.func 74), args := #[Go.Operand.tmp 17, Go.Operand.tmp 29, Go.Operand.tmp 30, Go.Operand.tmp 31], argTypes := #[31, 3, 3, 3] }, type := 5, pos := "ref.go:55", after := #[{ on := 0, ground := Go.Ground.data }, { on := 12, ground := Go.Ground.data }, { on := 13, ground := Go.Ground.data }, { on := 14, ground := Go.Ground.data }, { on := 12, ground := Go.Ground.chain }], guard := none }) rfl (fun K hK => ?_) AllReadyH.nil)
        · skip
          go_simp
          with_reducible refine (SD.out _ (HM0.out.at HN.out B3.out)).mono ?_
          rintro q_ u4 ⟨rfl, hb⟩
          subst hb
          have B4 := B3
          have P4 := P3
          clear B3 P3
          refine hK.out _ _ ?s42 (fun hNew => ?r42)
          case s42 => exact P4.out.2.1
          clear hK K hHeld
          have hHeld := hNew
          clear hNew
          refine wpAnyH_take (i := 16) (oi := { dst := some 10, op := Go.Op.assign (Go.Operand.tmp 32), type := 5, pos := "ref.go:55", after := #[{ on := 15, ground := Go.Ground.data }, { on := 15, ground := Go.Ground.chain }, { on := 0, ground := Go.Ground.phase }, { on := 1, ground := Go.Ground.phase }, { on := 2, ground := Go.Ground.phase }, { on := 3, ground := Go.Ground.phase }, { on := 4, ground := Go.Ground.phase }, { on := 5, ground := Go.Ground.phase }, { on := 6, ground := Go.Ground.phase }, { on := 7, ground := Go.Ground.phase }, { on := 8, ground := Go.Ground.phase }, { on := 9, ground := Go.Ground.phase }, { on := 10, ground := Go.Ground.phase }, { on := 11, ground := Go.Ground.phase }, { on := 12, ground := Go.Ground.phase }, { on := 13, ground := Go.Ground.phase }, { on := 14, ground := Go.Ground.phase }, { on := 15, ground := Go.Ground.phase }], guard := none }) (v := ?v43) rfl (by kernel_rfl) (by kernel_rfl) (by kernel_rfl) (fun _ _ _ h => h) (Or.inl ⟨by rfl, ?y43⟩) (by assumption) ?z43
          case y43 => (intro w hSw; (try dsimp only at hSw); go_simp) <;> with_reducible rfl
          try simp only [Act.put, List.setIfInBounds_toArray, List.set_cons_zero, List.set_cons_succ]
          refine wpAnyH_done (by kernel_rfl) ?_ _
          clear hHeld
          go_wp2_with (fail)
          all_goals exact bodyPost_ret (v := .int .u8 d) (by simp [results, Try.results75, go_sem]) rfl ⟨rfl, B4.out⟩
  · skip
    have HST : ∃ q_ : Int, q_ = 7168 := ⟨_, rfl⟩
    obtain ⟨st, hst⟩ := HST
    have hs0 : 6144 ≤ st ∧ st ≤ 7168 := by omega
    rw [show (if (true : Bool) = true then (7168 : Int) else 6144) = st by rw [hst]; rfl]
    obtain ⟨k, hk⟩ : ∃ k : Nat, (k : Int) = 7168 + 32 * (py / 8) + px / 8 := ⟨(7168 + 32 * (py / 8) + px / 8).toNat, by omega⟩
    have k1 : k < 8192 := by omega
    have ev : spotV F c st px py = dotV F (numV c (F k)) px py := by
      unfold spotV
      rw [show (st + py / 8 * 32 + px / 8).toNat = k by omega]
    rw [ev]
    have bk := HM0.out.ok k
    have SA := Lib.hid (fun W h => rat_c s F k k1 W h)
    rw [hk, show 7168 + 32 * (py / 8) + px / 8 = IntKind.i64.wrap (IntKind.i64.wrap (7168 + IntKind.i64.wrap (32 * IntKind.i64.wrap (py.tdiv 8))) + IntKind.i64.wrap (px.tdiv 8)) by rw [Int.tdiv_eq_ediv_of_nonneg q0.1, Int.tdiv_eq_ediv_of_nonneg p0.1]; simp only [IntKind.wrap_i64]; omega] at SA
    obtain ⟨b, hb⟩ : ∃ b, b = F k := ⟨_, rfl⟩
    rw [← hb] at SA bk ⊢
    have SN := Lib.hid (fun W => rnumber_c c sx sy wx wy c0 c1 sx0 sx1 sy0 sy1 wx0 wx1 wy0 wy1 b bk.1 bk.2 W)
    obtain ⟨n, hn⟩ : ∃ b_, b_ = numV c b := ⟨_, rfl⟩
    rw [← hn] at SN ⊢
    have SD := Lib.hid (fun W h => rdot_c s F n px py (by omega) (by omega) (by omega) (by omega) W h)
    have db := dotV_bd F n px py
    obtain ⟨d, hd⟩ : ∃ b_, b_ = dotV F n px py := ⟨_, rfl⟩
    rw [← hd] at SD db ⊢
    clear hb hn hd hk ev hst hs0
    go_enter Try.func75, Try.ntmps75
    have Q_ := own1 w (.cells #[.int .u8 c, .int .u8 sx, .int .u8 sy, .int .u8 wx, .int .u8 wy] 72)
    have B0 := Lib.hid (vian HN.out BB.out Q_)
    have P0 := Lib.hid (show Has (w.alloc (.cells #[.int .u8 c, .int .u8 sx, .int .u8 sy, .int .u8 wx, .int .u8 wy] 72)) w.heap.size #[.int .u8 c, .int .u8 sx, .int .u8 sy, .int .u8 wx, .int .u8 wy] by simpa using Has.new w #[.int .u8 c, .int .u8 sx, .int .u8 sy, .int .u8 wx, .int .u8 wy] 72)
    have LP := Lib.hid (show n_ ≤ w.heap.size + 0 from Nat.le_add_right_of_le (Nat.le_trans HN.out BB.out.size))
    simp only [Nat.add_zero] at LP
    clear Q_
    go_upto_region 1 with (fail)
    generalize (w.alloc (.cells #[.int .u8 c, .int .u8 sx, .int .u8 sy, .int .u8 wx, .int .u8 wy] 72)) = u0 at B0 P0 ⊢
    generalize w.heap.size = pb at P0 LP  ⊢
    go_wp2_with (fail)
    with_reducible refine (SX.out _).mono ?_
    rintro q_ w' ⟨rfl, rfl⟩
    go_wp2_with (fail)
    with_reducible refine (SY.out _).mono ?_
    rintro q_ w' ⟨rfl, rfl⟩
    go_upto_region 5 with (fail)
    have B1 := Lib.hid B0.out.drew
    have P1 := Lib.hid P0.out.drew
    clear B0 P0
    refine wp_region_held_drew (S := (fun w' => ∀ o, w'.cell? ⟨pb, o, none⟩ = (#[.int .u8 c, .int .u8 sx, .int .u8 sy, .int .u8 wx, .int .u8 wy])[o]?)) (by kernel_rfl) P1.out.2.1 (fun hHeld => ?_)
    generalize World.drew _ = u1 at hHeld B1 P1 ⊢
    refine wpAnyH_take (i := 0) (oi := { dst := some 17, op := Go.Op.move (Go.Operand.tmp 1), type := 31, pos := "ref.go:55", after := #[], guard := none }) (v := ?v44) rfl (by kernel_rfl) (by kernel_rfl) (by kernel_rfl) (fun _ _ _ h => h) (Or.inl ⟨by rfl, ?y44⟩) (by assumption) ?z44
    case y44 => (intro w hSw; (try dsimp only at hSw); go_simp) <;> with_reducible rfl
    try simp only [Act.put, List.setIfInBounds_toArray, List.set_cons_zero, List.set_cons_succ]
    refine wpAnyH_take (i := 1) (oi := { dst := some 18, op := Go.Op.load 72 (Go.Operand.tmp 5), type := 72, pos := "ref.go:55", after := #[], guard := none }) (v := ?v45) rfl (by kernel_rfl) (by kernel_rfl) (by kernel_rfl) (fun _ _ _ h => h) (Or.inl ⟨by rfl, ?y45⟩) (by assumption) ?z45
    case y45 => (intro w hSw; (try dsimp only at hSw); go_simp) <;> with_reducible rfl
    try simp only [Act.put, List.setIfInBounds_toArray, List.set_cons_zero, List.set_cons_succ]
    refine wpAnyH_take (i := 2) (oi := { dst := some 19, op := Go.Op.move (Go.Operand.tmp 1), type := 31, pos := "ref.go:55", after := #[], guard := none }) (v := ?v46) rfl (by kernel_rfl) (by kernel_rfl) (by kernel_rfl) (fun _ _ _ h => h) (Or.inl ⟨by rfl, ?y46⟩) (by assumption) ?z46
    case y46 => (intro w hSw; (try dsimp only at hSw); go_simp) <;> with_reducible rfl
    try simp only [Act.put, List.setIfInBounds_toArray, List.set_cons_zero, List.set_cons_succ]
    refine wpAnyH_take (i := 3) (oi := { dst := some 20, op := Go.Op.move (Go.Operand.tmp 11), type := 3, pos := "ref.go:55", after := #[], guard := none }) (v := ?v47) rfl (by kernel_rfl) (by kernel_rfl) (by kernel_rfl) (fun _ _ _ h => h) (Or.inl ⟨by rfl, ?y47⟩) (by assumption) ?z47
    case y47 => (intro w hSw; (try dsimp only at hSw); go_simp) <;> with_reducible rfl
    try simp only [Act.put, List.setIfInBounds_toArray, List.set_cons_zero, List.set_cons_succ]
    refine wpAnyH_take (i := 4) (oi := { dst := some 21, op := Go.Op.move (Go.Operand.tmp 4), type := 3, pos := "ref.go:55", after := #[], guard := none }) (v := ?v48) rfl (by kernel_rfl) (by kernel_rfl) (by kernel_rfl) (fun _ _ _ h => h) (Or.inl ⟨by rfl, ?y48⟩) (by assumption) ?z48
    case y48 => (intro w hSw; (try dsimp only at hSw); go_simp) <;> with_reducible rfl
    try simp only [Act.put, List.setIfInBounds_toArray, List.set_cons_zero, List.set_cons_succ]
    refine wpAnyH_take (i := 5) (oi := { dst := some 22, op := Go.Op.binOp Go.BinOp.quo 3 (Go.Operand.tmp 21) (Go.Operand.const (Go.Value.int Go.IntKind.i64 8)) 3, type := 3, pos := "ref.go:55", after := #[{ on := 4, ground := Go.Ground.data }], guard := none }) (v := ?v49) rfl (by kernel_rfl) (by kernel_rfl) (by kernel_rfl) (fun _ _ _ h => h) (Or.inl ⟨by rfl, ?y49⟩) (by assumption) ?z49
    case y49 => (intro w hSw; (try dsimp only at hSw); go_simp) <;> with_reducible rfl
    try simp only [Act.put, List.setIfInBounds_toArray, List.set_cons_zero, List.set_cons_succ]
    refine wpAnyH_take (i := 6) (oi := { dst := some 23, op := Go.Op.binOp Go.BinOp.mul 3 (Go.Operand.const (Go.Value.int Go.IntKind.i64 32)) (Go.Operand.tmp 22) 3, type := 3, pos := "ref.go:55", after := #[{ on := 5, ground := Go.Ground.data }], guard := none }) (v := ?v50) rfl (by kernel_rfl) (by kernel_rfl) (by kernel_rfl) (fun _ _ _ h => h) (Or.inl ⟨by rfl, ?y50⟩) (by assumption) ?z50
    case y50 => (intro w hSw; (try dsimp only at hSw); go_simp) <;> with_reducible rfl
    try simp only [Act.put, List.setIfInBounds_toArray, List.set_cons_zero, List.set_cons_succ]
    refine wpAnyH_take (i := 7) (oi := { dst := some 24, op := Go.Op.binOp Go.BinOp.add 3 (Go.Operand.tmp 20) (Go.Operand.tmp 23) 3, type := 3, pos := "ref.go:55", after := #[{ on := 3, ground := Go.Ground.data }, { on := 6, ground := Go.Ground.data }], guard := none }) (v := ?v51) rfl (by kernel_rfl) (by kernel_rfl) (by kernel_rfl) (fun _ _ _ h => h) (Or.inl ⟨by rfl, ?y51⟩) (by assumption) ?z51
    case y51 => (intro w hSw; (try dsimp only at hSw); go_simp) <;> with_reducible rfl
    try simp only [Act.put, List.setIfInBounds_toArray, List.set_cons_zero, List.set_cons_succ]
    refine wpAnyH_take (i := 8) (oi := { dst := some 25, op := Go.Op.move (Go.Operand.tmp 3), type := 3, pos := "ref.go:55", after := #[], guard := none }) (v := ?v52) rfl (by kernel_rfl) (by kernel_rfl) (by kernel_rfl) (fun _ _ _ h => h) (Or.inl ⟨by rfl, ?y52⟩) (by assumption) ?z52
    case y52 => (intro w hSw; (try dsimp only at hSw); go_simp) <;> with_reducible rfl
    try simp only [Act.put, List.setIfInBounds_toArray, List.set_cons_zero, List.set_cons_succ]
    refine wpAnyH_take (i := 9) (oi := { dst := some 26, op := Go.Op.binOp Go.BinOp.quo 3 (Go.Operand.tmp 25) (Go.Operand.const (Go.Value.int Go.IntKind.i64 8)) 3, type := 3, pos := "ref.go:55", after := #[{ on := 8, ground := Go.Ground.data }], guard := none }) (v := ?v53) rfl (by kernel_rfl) (by kernel_rfl) (by kernel_rfl) (fun _ _ _ h => h) (Or.inl ⟨by rfl, ?y53⟩) (by assumption) ?z53
    case y53 => (intro w hSw; (try dsimp only at hSw); go_simp) <;> with_reducible rfl
    try simp only [Act.put, List.setIfInBounds_toArray, List.set_cons_zero, List.set_cons_succ]
    refine wpAnyH_take (i := 10) (oi := { dst := some 27, op := Go.Op.binOp Go.BinOp.add 3 (Go.Operand.tmp 24) (Go.Operand.tmp 26) 3, type := 3, pos := "ref.go:55", after := #[{ on := 7, ground := Go.Ground.data }, { on := 9, ground := Go.Ground.data }], guard := none }) (v := ?v54) rfl (by kernel_rfl) (by kernel_rfl) (by kernel_rfl) (fun _ _ _ h => h) (Or.inl ⟨by rfl, ?y54⟩) (by assumption) ?z54
    case y54 => (intro w hSw; (try dsimp only at hSw); go_simp) <;> with_reducible rfl
    try simp only [Act.put, List.setIfInBounds_toArray, List.set_cons_zero, List.set_cons_succ]
    refine wpAnyH_take (i := 13) (oi := { dst := some 30, op := Go.Op.move (Go.Operand.tmp 3), type := 3, pos := "ref.go:55", after := #[], guard := none }) (v := ?v55) rfl (by kernel_rfl) (by kernel_rfl) (by kernel_rfl) (fun _ _ _ h => h) (Or.inl ⟨by rfl, ?y55⟩) (by assumption) ?z55
    case y55 => (intro w hSw; (try dsimp only at hSw); go_simp) <;> with_reducible rfl
    try simp only [Act.put, List.setIfInBounds_toArray, List.set_cons_zero, List.set_cons_succ]
    refine wpAnyH_take (i := 14) (oi := { dst := some 31, op := Go.Op.move (Go.Operand.tmp 4), type := 3, pos := "ref.go:55", after := #[], guard := none }) (v := ?v56) rfl (by kernel_rfl) (by kernel_rfl) (by kernel_rfl) (fun _ _ _ h => h) (Or.inl ⟨by rfl, ?y56⟩) (by assumption) ?z56
    case y56 => (intro w hSw; (try dsimp only at hSw); go_simp) <;> with_reducible rfl
    try simp only [Act.put, List.setIfInBounds_toArray, List.set_cons_zero, List.set_cons_succ]
    refine wpAnyH_ready (rs := [11]) (by kernel_rfl) (by simp) ?_
    refine (AllReadyH.cons (o := { dst := some 28, op := Go.Op.call { callee := Go.Callee.value (Go.Operand.func 85), args := #[Go.Operand.tmp 19, Go.Operand.tmp 27], argTypes := #[31, 3] }, type := 5, pos := "ref.go:55", after := #[{ on := 2, ground := Go.Ground.data }, { on := 10, ground := Go.Ground.data }], guard := none }) rfl (fun K hK => ?_) AllReadyH.nil)
    · skip
      go_simp
      with_reducible refine (SA.out _ (HM0.out.at HN.out B1.out)).mono ?_
      rintro q_ u2 ⟨rfl, hb⟩
      subst hb
      have B2 := B1
      have P2 := P1
      clear B1 P1
      refine hK.out _ _ ?s57 (fun hNew => ?r57)
      case s57 => exact P2.out.2.1
      clear hK K hHeld
      have hHeld := hNew
      clear hNew
      refine wpAnyH_ready (rs := [12]) (by kernel_rfl) (by simp) ?_
      refine (AllReadyH.cons (o := { dst := some 29, op := Go.Op.call { callee := Go.Callee.value (Go.Operand.func 86), args := #[Go.Operand.tmp 18, Go.Operand.tmp 28], argTypes := #[72, 5] }, type := 3, pos := "ref.go:55", after := #[{ on := 1, ground := Go.Ground.data }, { on := 11, ground := Go.Ground.data }, { on := 11, ground := Go.Ground.chain }], guard := none }) rfl (fun K hK => ?_) AllReadyH.nil)
      · skip
        go_simp
        with_reducible refine (SN.out _).mono ?_
        rintro q_ u3 ⟨rfl, hb⟩
        have B3 := Lib.hid (vian HN.out B2.out hb)
        have P3 := Lib.hid (P2.out.below hb)
        clear hb
        clear B2 P2
        refine hK.out _ _ ?s58 (fun hNew => ?r58)
        case s58 => exact P3.out.2.1
        clear hK K hHeld
        have hHeld := hNew
        clear hNew
        refine wpAnyH_ready (rs := [15]) (by kernel_rfl) (by simp) ?_
        refine (AllReadyH.cons (o := { dst := some 32, op := Go.Op.call { callee := Go.Callee.value (Go.Operand.func 74), args := #[Go.Operand.tmp 17, Go.Operand.tmp 29, Go.Operand.tmp 30, Go.Operand.tmp 31], argTypes := #[31, 3, 3, 3] }, type := 5, pos := "ref.go:55", after := #[{ on := 0, ground := Go.Ground.data }, { on := 12, ground := Go.Ground.data }, { on := 13, ground := Go.Ground.data }, { on := 14, ground := Go.Ground.data }, { on := 12, ground := Go.Ground.chain }], guard := none }) rfl (fun K hK => ?_) AllReadyH.nil)
        · skip
          go_simp
          with_reducible refine (SD.out _ (HM0.out.at HN.out B3.out)).mono ?_
          rintro q_ u4 ⟨rfl, hb⟩
          subst hb
          have B4 := B3
          have P4 := P3
          clear B3 P3
          refine hK.out _ _ ?s59 (fun hNew => ?r59)
          case s59 => exact P4.out.2.1
          clear hK K hHeld
          have hHeld := hNew
          clear hNew
          refine wpAnyH_take (i := 16) (oi := { dst := some 10, op := Go.Op.assign (Go.Operand.tmp 32), type := 5, pos := "ref.go:55", after := #[{ on := 15, ground := Go.Ground.data }, { on := 15, ground := Go.Ground.chain }, { on := 0, ground := Go.Ground.phase }, { on := 1, ground := Go.Ground.phase }, { on := 2, ground := Go.Ground.phase }, { on := 3, ground := Go.Ground.phase }, { on := 4, ground := Go.Ground.phase }, { on := 5, ground := Go.Ground.phase }, { on := 6, ground := Go.Ground.phase }, { on := 7, ground := Go.Ground.phase }, { on := 8, ground := Go.Ground.phase }, { on := 9, ground := Go.Ground.phase }, { on := 10, ground := Go.Ground.phase }, { on := 11, ground := Go.Ground.phase }, { on := 12, ground := Go.Ground.phase }, { on := 13, ground := Go.Ground.phase }, { on := 14, ground := Go.Ground.phase }, { on := 15, ground := Go.Ground.phase }], guard := none }) (v := ?v60) rfl (by kernel_rfl) (by kernel_rfl) (by kernel_rfl) (fun _ _ _ h => h) (Or.inl ⟨by rfl, ?y60⟩) (by assumption) ?z60
          case y60 => (intro w hSw; (try dsimp only at hSw); go_simp) <;> with_reducible rfl
          try simp only [Act.put, List.setIfInBounds_toArray, List.set_cons_zero, List.set_cons_succ]
          refine wpAnyH_done (by kernel_rfl) ?_ _
          clear hHeld
          go_wp2_with (fail)
          all_goals exact bodyPost_ret (v := .int .u8 d) (by simp [results, Try.results75, go_sem]) rfl ⟨rfl, B4.out⟩
set_option maxHeartbeats 2000000 in
theorem rback_c (c sx sy wx wy : Int) (c0 : 0 ≤ c) (c1 : c < 256) (sx0 : 0 ≤ sx) (sx1 : sx < 256) (sy0 : 0 ≤ sy) (sy1 : sy < 256) (wx0 : 0 ≤ wx) (wx1 : wx < 256) (wy0 : 0 ≤ wy) (wy1 : wy < 256) (s : Value) (F : M) (x y : Int) (x0 : -9223372036854775808 ≤ x) (x1 : x ≤ 9223372036854775807) (y0 : -9223372036854775808 ≤ y) (y1 : y ≤ 9223372036854775807) (w : World) (hM0 : Mem w s F) : Calls Try.prog 67 #[.agg #[.int .u8 c, .int .u8 sx, .int .u8 sy, .int .u8 wx, .int .u8 wy], s, .int .i64 x, .int .i64 y] w fun q_ w' => q_ = .returned (.int .u8 (backV F c sx sy x y)) ∧ Below w.heap.size w w' := by
  suffices hall : ∀ (n_ : Nat) (W0 : World), n_ ≤ W0.heap.size → Below n_ W0 w → MemB n_ W0 s F → Calls Try.prog 67 #[.agg #[.int .u8 c, .int .u8 sx, .int .u8 sy, .int .u8 wx, .int .u8 wy], s, .int .i64 x, .int .i64 y] w fun q_ w' => q_ = .returned (.int .u8 (backV F c sx sy x y)) ∧ Below n_ W0 w' from hall _ _ (Nat.le_refl _) (Below.refl _ _) hM0
  clear hM0
  intro n_ W0 hn hB hM0
  have HN := Lib.hid hn
  have BB := Lib.hid hB
  clear hn hB
  have HM0 := Lib.hid hM0
  clear hM0
  have SB := Lib.hid (fun W => bit3_c c c0 c1 W)
  have ev : backV F c sx sy x y = spotV F c (if (bit c 3 == 1) = true then 7168 else 6144) ((x % 256 + sx) % 256) ((y % 256 + sy) % 256) := by
    unfold backV mapV
    rw [show (bit c 3 == 1) = decide (bit c 3 = 1) from rfl]
    simp only [decide_eq_true_eq]
    rw [show (x % 256 + sx) % 256 = (x + sx) % 256 by omega, show (y % 256 + sy) % 256 = (y + sy) % 256 by omega]
  rw [ev]
  have SX := Lib.hid (fun W => mod256_c x x0 x1 W)
  have SY := Lib.hid (fun W => mod256_c y y0 y1 W)
  have SP := Lib.hid (fun W h => spot_c c sx sy wx wy c0 c1 sx0 sx1 sy0 sy1 wx0 wx1 wy0 wy1 s F (bit c 3 == 1) (x % 256 + sx) (y % 256 + sy) (by omega) (by omega) (by omega) (by omega) W h)
  have hq := bit_bd c 3
  obtain ⟨d, hd⟩ : ∃ q_, q_ = spotV F c (if (bit c 3 == 1) = true then 7168 else 6144) ((x % 256 + sx) % 256) ((y % 256 + sy) % 256) := ⟨_, rfl⟩
  rw [← hd] at SP ⊢
  obtain ⟨q, hqq⟩ : ∃ q_, q_ = bit c 3 := ⟨_, rfl⟩
  rw [← hqq] at SB SP hq
  rw [show x % 256 + sx = IntKind.i64.wrap (x % 256 + IntKind.i64.wrap sx) by simp only [IntKind.wrap_i64]; omega, show y % 256 + sy = IntKind.i64.wrap (y % 256 + IntKind.i64.wrap sy) by simp only [IntKind.wrap_i64]; omega] at SP
  clear hd hqq ev
  go_enter Try.func67, Try.ntmps67
  have Q_ := own1 w (.cells #[.int .u8 c, .int .u8 sx, .int .u8 sy, .int .u8 wx, .int .u8 wy] 72)
  have B0 := Lib.hid (vian HN.out BB.out Q_)
  have P0 := Lib.hid (show Has (w.alloc (.cells #[.int .u8 c, .int .u8 sx, .int .u8 sy, .int .u8 wx, .int .u8 wy] 72)) w.heap.size #[.int .u8 c, .int .u8 sx, .int .u8 sy, .int .u8 wx, .int .u8 wy] by simpa using Has.new w #[.int .u8 c, .int .u8 sx, .int .u8 sy, .int .u8 wx, .int .u8 wy] 72)
  have LP := Lib.hid (show n_ ≤ w.heap.size + 0 from Nat.le_add_right_of_le (Nat.le_trans HN.out BB.out.size))
  simp only [Nat.add_zero] at LP
  clear Q_
  go_upto_region 1 with (fail)
  generalize (w.alloc (.cells #[.int .u8 c, .int .u8 sx, .int .u8 sy, .int .u8 wx, .int .u8 wy] 72)) = u0 at B0 P0 ⊢
  generalize w.heap.size = pb at P0 LP  ⊢
  have B1 := Lib.hid B0.out.drew
  have P1 := Lib.hid P0.out.drew
  clear B0 P0
  refine wp_region_held_drew (S := (fun w' => ∀ o, w'.cell? ⟨pb, o, none⟩ = (#[.int .u8 c, .int .u8 sx, .int .u8 sy, .int .u8 wx, .int .u8 wy])[o]?)) (by kernel_rfl) P1.out.2.1 (fun hHeld => ?_)
  generalize World.drew _ = u1 at hHeld B1 P1 ⊢
  refine wpAnyH_take (i := 0) (oi := { dst := some 9, op := Go.Op.load 72 (Go.Operand.tmp 4), type := 72, pos := "ref.go:60", after := #[], guard := none }) (v := ?v61) rfl (by kernel_rfl) (by kernel_rfl) (by kernel_rfl) (fun _ _ _ h => h) (Or.inl ⟨by rfl, ?y61⟩) (by assumption) ?z61
  case y61 => (intro w hSw; (try dsimp only at hSw); go_simp) <;> with_reducible rfl
  try simp only [Act.put, List.setIfInBounds_toArray, List.set_cons_zero, List.set_cons_succ]
  refine wpAnyH_take (i := 1) (oi := { dst := some 10, op := Go.Op.move (Go.Operand.tmp 1), type := 31, pos := "ref.go:60", after := #[], guard := none }) (v := ?v62) rfl (by kernel_rfl) (by kernel_rfl) (by kernel_rfl) (fun _ _ _ h => h) (Or.inl ⟨by rfl, ?y62⟩) (by assumption) ?z62
  case y62 => (intro w hSw; (try dsimp only at hSw); go_simp) <;> with_reducible rfl
  try simp only [Act.put, List.setIfInBounds_toArray, List.set_cons_zero, List.set_cons_succ]
  refine wpAnyH_take (i := 2) (oi := { dst := some 11, op := Go.Op.fieldAddr 72 (Go.Operand.tmp 4) 0, type := 0, pos := "ref.go:60", after := #[], guard := none }) (v := ?v63) rfl (by kernel_rfl) (by kernel_rfl) (by kernel_rfl) (fun _ _ _ h => h) (Or.inl ⟨by rfl, ?y63⟩) (by assumption) ?z63
  case y63 => (intro w hSw; (try dsimp only at hSw); go_simp) <;> with_reducible rfl
  try simp only [Act.put, List.setIfInBounds_toArray, List.set_cons_zero, List.set_cons_succ]
  refine wpAnyH_take (i := 3) (oi := { dst := some 12, op := Go.Op.load 5 (Go.Operand.tmp 11), type := 5, pos := "ref.go:60", after := #[{ on := 2, ground := Go.Ground.data }], guard := none }) (v := ?v64) rfl (by kernel_rfl) (by kernel_rfl) (by kernel_rfl) (fun _ _ _ h => h) (Or.inl ⟨by rfl, ?y64⟩) (by assumption) ?z64
  case y64 => (intro w hSw; (try dsimp only at hSw); go_simp) <;> with_reducible rfl
  try simp only [Act.put, List.setIfInBounds_toArray, List.set_cons_zero, List.set_cons_succ]
  refine wpAnyH_take (i := 6) (oi := { dst := some 15, op := Go.Op.move (Go.Operand.tmp 2), type := 3, pos := "ref.go:60", after := #[], guard := none }) (v := ?v65) rfl (by kernel_rfl) (by kernel_rfl) (by kernel_rfl) (fun _ _ _ h => h) (Or.inl ⟨by rfl, ?y65⟩) (by assumption) ?z65
  case y65 => (intro w hSw; (try dsimp only at hSw); go_simp) <;> with_reducible rfl
  try simp only [Act.put, List.setIfInBounds_toArray, List.set_cons_zero, List.set_cons_succ]
  refine wpAnyH_take (i := 8) (oi := { dst := some 17, op := Go.Op.fieldAddr 72 (Go.Operand.tmp 4) 1, type := 0, pos := "ref.go:60", after := #[], guard := none }) (v := ?v66) rfl (by kernel_rfl) (by kernel_rfl) (by kernel_rfl) (fun _ _ _ h => h) (Or.inl ⟨by rfl, ?y66⟩) (by assumption) ?z66
  case y66 => (intro w hSw; (try dsimp only at hSw); go_simp) <;> with_reducible rfl
  try simp only [Act.put, List.setIfInBounds_toArray, List.set_cons_zero, List.set_cons_succ]
  refine wpAnyH_take (i := 9) (oi := { dst := some 18, op := Go.Op.load 5 (Go.Operand.tmp 17), type := 5, pos := "ref.go:60", after := #[{ on := 8, ground := Go.Ground.data }], guard := none }) (v := ?v67) rfl (by kernel_rfl) (by kernel_rfl) (by kernel_rfl) (fun _ _ _ h => h) (Or.inl ⟨by rfl, ?y67⟩) (by assumption) ?z67
  case y67 => (intro w hSw; (try dsimp only at hSw); go_simp) <;> with_reducible rfl
  try simp only [Act.put, List.setIfInBounds_toArray, List.set_cons_zero, List.set_cons_succ]
  refine wpAnyH_take (i := 10) (oi := { dst := some 19, op := Go.Op.convert 5 3 (Go.Operand.tmp 18), type := 3, pos := "ref.go:60", after := #[{ on := 9, ground := Go.Ground.data }], guard := none }) (v := ?v68) rfl (by kernel_rfl) (by kernel_rfl) (by kernel_rfl) (fun _ _ _ h => h) (Or.inl ⟨by rfl, ?y68⟩) (by assumption) ?z68
  case y68 => (intro w hSw; (try dsimp only at hSw); go_simp) <;> with_reducible rfl
  try simp only [Act.put, List.setIfInBounds_toArray, List.set_cons_zero, List.set_cons_succ]
  refine wpAnyH_take (i := 12) (oi := { dst := some 21, op := Go.Op.move (Go.Operand.tmp 3), type := 3, pos := "ref.go:60", after := #[], guard := none }) (v := ?v69) rfl (by kernel_rfl) (by kernel_rfl) (by kernel_rfl) (fun _ _ _ h => h) (Or.inl ⟨by rfl, ?y69⟩) (by assumption) ?z69
  case y69 => (intro w hSw; (try dsimp only at hSw); go_simp) <;> with_reducible rfl
  try simp only [Act.put, List.setIfInBounds_toArray, List.set_cons_zero, List.set_cons_succ]
  refine wpAnyH_take (i := 14) (oi := { dst := some 23, op := Go.Op.fieldAddr 72 (Go.Operand.tmp 4) 2, type := 0, pos := "ref.go:60", after := #[], guard := none }) (v := ?v70) rfl (by kernel_rfl) (by kernel_rfl) (by kernel_rfl) (fun _ _ _ h => h) (Or.inl ⟨by rfl, ?y70⟩) (by assumption) ?z70
  case y70 => (intro w hSw; (try dsimp only at hSw); go_simp) <;> with_reducible rfl
  try simp only [Act.put, List.setIfInBounds_toArray, List.set_cons_zero, List.set_cons_succ]
  refine wpAnyH_take (i := 15) (oi := { dst := some 24, op := Go.Op.load 5 (Go.Operand.tmp 23), type := 5, pos := "ref.go:60", after := #[{ on := 14, ground := Go.Ground.data }], guard := none }) (v := ?v71) rfl (by kernel_rfl) (by kernel_rfl) (by kernel_rfl) (fun _ _ _ h => h) (Or.inl ⟨by rfl, ?y71⟩) (by assumption) ?z71
  case y71 => (intro w hSw; (try dsimp only at hSw); go_simp) <;> with_reducible rfl
  try simp only [Act.put, List.setIfInBounds_toArray, List.set_cons_zero, List.set_cons_succ]
  refine wpAnyH_take (i := 16) (oi := { dst := some 25, op := Go.Op.convert 5 3 (Go.Operand.tmp 24), type := 3, pos := "ref.go:60", after := #[{ on := 15, ground := Go.Ground.data }], guard := none }) (v := ?v72) rfl (by kernel_rfl) (by kernel_rfl) (by kernel_rfl) (fun _ _ _ h => h) (Or.inl ⟨by rfl, ?y72⟩) (by assumption) ?z72
  case y72 => (intro w hSw; (try dsimp only at hSw); go_simp) <;> with_reducible rfl
  try simp only [Act.put, List.setIfInBounds_toArray, List.set_cons_zero, List.set_cons_succ]
  refine wpAnyH_ready (rs := [4]) (by kernel_rfl) (by simp) ?_
  refine (AllReadyH.cons (o := { dst := some 13, op := Go.Op.call { callee := Go.Callee.value (Go.Operand.func 63), args := #[Go.Operand.tmp 12, Go.Operand.const (Go.Value.int Go.IntKind.i64 3)], argTypes := #[5, 3] }, type := 3, pos := "ref.go:60", after := #[{ on := 3, ground := Go.Ground.data }], guard := none }) rfl (fun K hK => ?_) AllReadyH.nil)
  · skip
    go_simp
    with_reducible refine (SB.out _).mono ?_
    rintro q_ u2 ⟨rfl, hb⟩
    subst hb
    have B2 := B1
    have P2 := P1
    clear B1 P1
    refine hK.out _ _ ?s73 (fun hNew => ?r73)
    case s73 => exact P2.out.2.1
    clear hK K hHeld
    have hHeld := hNew
    clear hNew
    refine wpAnyH_take (i := 5) (oi := { dst := some 14, op := Go.Op.binOp Go.BinOp.eql 3 (Go.Operand.tmp 13) (Go.Operand.const (Go.Value.int Go.IntKind.i64 1)) 3, type := 4, pos := "ref.go:60", after := #[{ on := 4, ground := Go.Ground.data }], guard := none }) (v := ?v74) rfl (by kernel_rfl) (by kernel_rfl) (by kernel_rfl) (fun _ _ _ h => h) (Or.inl ⟨by rfl, ?y74⟩) (by assumption) ?z74
    case y74 => (intro w hSw; (try dsimp only at hSw); go_simp) <;> with_reducible rfl
    try simp only [Act.put, List.setIfInBounds_toArray, List.set_cons_zero, List.set_cons_succ]
    refine wpAnyH_ready (rs := [7]) (by kernel_rfl) (by simp) ?_
    refine (AllReadyH.cons (o := { dst := some 16, op := Go.Op.call { callee := Go.Callee.value (Go.Operand.func 76), args := #[Go.Operand.tmp 15, Go.Operand.const (Go.Value.int Go.IntKind.i64 256)], argTypes := #[3, 3] }, type := 3, pos := "ref.go:60", after := #[{ on := 6, ground := Go.Ground.data }, { on := 4, ground := Go.Ground.chain }], guard := none }) rfl (fun K hK => ?_) AllReadyH.nil)
    · skip
      go_simp
      with_reducible refine (SX.out _).mono ?_
      rintro q_ u3 ⟨rfl, hb⟩
      subst hb
      have B3 := B2
      have P3 := P2
      clear B2 P2
      refine hK.out _ _ ?s75 (fun hNew => ?r75)
      case s75 => exact P3.out.2.1
      clear hK K hHeld
      have hHeld := hNew
      clear hNew
      refine wpAnyH_take (i := 11) (oi := { dst := some 20, op := Go.Op.binOp Go.BinOp.add 3 (Go.Operand.tmp 16) (Go.Operand.tmp 19) 3, type := 3, pos := "ref.go:60", after := #[{ on := 7, ground := Go.Ground.data }, { on := 10, ground := Go.Ground.data }], guard := none }) (v := ?v76) rfl (by kernel_rfl) (by kernel_rfl) (by kernel_rfl) (fun _ _ _ h => h) (Or.inl ⟨by rfl, ?y76⟩) (by assumption) ?z76
      case y76 => (intro w hSw; (try dsimp only at hSw); go_simp) <;> with_reducible rfl
      try simp only [Act.put, List.setIfInBounds_toArray, List.set_cons_zero, List.set_cons_succ]
      refine wpAnyH_ready (rs := [13]) (by kernel_rfl) (by simp) ?_
      refine (AllReadyH.cons (o := { dst := some 22, op := Go.Op.call { callee := Go.Callee.value (Go.Operand.func 76), args := #[Go.Operand.tmp 21, Go.Operand.const (Go.Value.int Go.IntKind.i64 256)], argTypes := #[3, 3] }, type := 3, pos := "ref.go:60", after := #[{ on := 12, ground := Go.Ground.data }, { on := 7, ground := Go.Ground.chain }], guard := none }) rfl (fun K hK => ?_) AllReadyH.nil)
      · skip
        go_simp
        with_reducible refine (SY.out _).mono ?_
        rintro q_ u4 ⟨rfl, hb⟩
        subst hb
        have B4 := B3
        have P4 := P3
        clear B3 P3
        refine hK.out _ _ ?s77 (fun hNew => ?r77)
        case s77 => exact P4.out.2.1
        clear hK K hHeld
        have hHeld := hNew
        clear hNew
        refine wpAnyH_take (i := 17) (oi := { dst := some 26, op := Go.Op.binOp Go.BinOp.add 3 (Go.Operand.tmp 22) (Go.Operand.tmp 25) 3, type := 3, pos := "ref.go:60", after := #[{ on := 13, ground := Go.Ground.data }, { on := 16, ground := Go.Ground.data }], guard := none }) (v := ?v78) rfl (by kernel_rfl) (by kernel_rfl) (by kernel_rfl) (fun _ _ _ h => h) (Or.inl ⟨by rfl, ?y78⟩) (by assumption) ?z78
        case y78 => (intro w hSw; (try dsimp only at hSw); go_simp) <;> with_reducible rfl
        try simp only [Act.put, List.setIfInBounds_toArray, List.set_cons_zero, List.set_cons_succ]
        refine wpAnyH_ready (rs := [18]) (by kernel_rfl) (by simp) ?_
        refine (AllReadyH.cons (o := { dst := some 27, op := Go.Op.call { callee := Go.Callee.value (Go.Operand.func 75), args := #[Go.Operand.tmp 9, Go.Operand.tmp 10, Go.Operand.tmp 14, Go.Operand.tmp 20, Go.Operand.tmp 26], argTypes := #[72, 31, 4, 3, 3] }, type := 5, pos := "ref.go:60", after := #[{ on := 0, ground := Go.Ground.data }, { on := 1, ground := Go.Ground.data }, { on := 5, ground := Go.Ground.data }, { on := 11, ground := Go.Ground.data }, { on := 17, ground := Go.Ground.data }, { on := 13, ground := Go.Ground.chain }], guard := none }) rfl (fun K hK => ?_) AllReadyH.nil)
        · skip
          go_simp
          with_reducible refine (SP.out _ (HM0.out.at HN.out B4.out)).mono ?_
          rintro q_ u5 ⟨rfl, hb⟩
          have B5 := Lib.hid (vian HN.out B4.out hb)
          have P5 := Lib.hid (P4.out.below hb)
          clear hb
          clear B4 P4
          refine hK.out _ _ ?s79 (fun hNew => ?r79)
          case s79 => exact P5.out.2.1
          clear hK K hHeld
          have hHeld := hNew
          clear hNew
          refine wpAnyH_take (i := 19) (oi := { dst := some 8, op := Go.Op.assign (Go.Operand.tmp 27), type := 5, pos := "ref.go:60", after := #[{ on := 18, ground := Go.Ground.data }, { on := 18, ground := Go.Ground.chain }, { on := 0, ground := Go.Ground.phase }, { on := 1, ground := Go.Ground.phase }, { on := 2, ground := Go.Ground.phase }, { on := 3, ground := Go.Ground.phase }, { on := 4, ground := Go.Ground.phase }, { on := 5, ground := Go.Ground.phase }, { on := 6, ground := Go.Ground.phase }, { on := 7, ground := Go.Ground.phase }, { on := 8, ground := Go.Ground.phase }, { on := 9, ground := Go.Ground.phase }, { on := 10, ground := Go.Ground.phase }, { on := 11, ground := Go.Ground.phase }, { on := 12, ground := Go.Ground.phase }, { on := 13, ground := Go.Ground.phase }, { on := 14, ground := Go.Ground.phase }, { on := 15, ground := Go.Ground.phase }, { on := 16, ground := Go.Ground.phase }, { on := 17, ground := Go.Ground.phase }, { on := 18, ground := Go.Ground.phase }], guard := none }) (v := ?v80) rfl (by kernel_rfl) (by kernel_rfl) (by kernel_rfl) (fun _ _ _ h => h) (Or.inl ⟨by rfl, ?y80⟩) (by assumption) ?z80
          case y80 => (intro w hSw; (try dsimp only at hSw); go_simp) <;> with_reducible rfl
          try simp only [Act.put, List.setIfInBounds_toArray, List.set_cons_zero, List.set_cons_succ]
          refine wpAnyH_done (by kernel_rfl) ?_ _
          clear hHeld
          go_wp2_with (fail)
          all_goals exact bodyPost_ret (v := .int .u8 d) (by simp [results, Try.results67, go_sem]) rfl ⟨rfl, B5.out⟩
set_option maxHeartbeats 2000000 in
theorem rwin_c (c sx sy wx wy : Int) (c0 : 0 ≤ c) (c1 : c < 256) (sx0 : 0 ≤ sx) (sx1 : sx < 256) (sy0 : 0 ≤ sy) (sy1 : sy < 256) (wx0 : 0 ≤ wx) (wx1 : wx < 256) (wy0 : 0 ≤ wy) (wy1 : wy < 256) (s : Value) (F : M) (x y : Int) (x0 : -9223372036854775808 ≤ x) (x1 : x ≤ 9223372036854775807) (y0 : -9223372036854775808 ≤ y) (y1 : y ≤ 9223372036854775807) (w : World) (hM0 : Mem w s F) : Calls Try.prog 66 #[.agg #[.int .u8 c, .int .u8 sx, .int .u8 sy, .int .u8 wx, .int .u8 wy], s, .int .i64 x, .int .i64 y] w fun q_ w' => q_ = .returned (.int .u8 (winV F c x y)) ∧ Below w.heap.size w w' := by
  suffices hall : ∀ (n_ : Nat) (W0 : World), n_ ≤ W0.heap.size → Below n_ W0 w → MemB n_ W0 s F → Calls Try.prog 66 #[.agg #[.int .u8 c, .int .u8 sx, .int .u8 sy, .int .u8 wx, .int .u8 wy], s, .int .i64 x, .int .i64 y] w fun q_ w' => q_ = .returned (.int .u8 (winV F c x y)) ∧ Below n_ W0 w' from hall _ _ (Nat.le_refl _) (Below.refl _ _) hM0
  clear hM0
  intro n_ W0 hn hB hM0
  have HN := Lib.hid hn
  have BB := Lib.hid hB
  clear hn hB
  have HM0 := Lib.hid hM0
  clear hM0
  have SB := Lib.hid (fun W => bit6_c c c0 c1 W)
  have ev : winV F c x y = spotV F c (if (bit c 6 == 1) = true then 7168 else 6144) ((x) % 256) ((y) % 256) := by
    unfold winV mapV
    rw [show (bit c 6 == 1) = decide (bit c 6 = 1) from rfl]
    simp only [decide_eq_true_eq]
    skip
  rw [ev]
  have SX := Lib.hid (fun W => mod256_c x x0 x1 W)
  have SY := Lib.hid (fun W => mod256_c y y0 y1 W)
  have SP := Lib.hid (fun W h => spot_c c sx sy wx wy c0 c1 sx0 sx1 sy0 sy1 wx0 wx1 wy0 wy1 s F (bit c 6 == 1) (x) (y) (by omega) (by omega) (by omega) (by omega) W h)
  have hq := bit_bd c 6
  obtain ⟨d, hd⟩ : ∃ q_, q_ = spotV F c (if (bit c 6 == 1) = true then 7168 else 6144) ((x) % 256) ((y) % 256) := ⟨_, rfl⟩
  rw [← hd] at SP ⊢
  obtain ⟨q, hqq⟩ : ∃ q_, q_ = bit c 6 := ⟨_, rfl⟩
  rw [← hqq] at SB SP hq
  skip
  clear hd hqq ev
  go_enter Try.func66, Try.ntmps66
  have Q_ := own1 w (.cells #[.int .u8 c, .int .u8 sx, .int .u8 sy, .int .u8 wx, .int .u8 wy] 72)
  have B0 := Lib.hid (vian HN.out BB.out Q_)
  have P0 := Lib.hid (show Has (w.alloc (.cells #[.int .u8 c, .int .u8 sx, .int .u8 sy, .int .u8 wx, .int .u8 wy] 72)) w.heap.size #[.int .u8 c, .int .u8 sx, .int .u8 sy, .int .u8 wx, .int .u8 wy] by simpa using Has.new w #[.int .u8 c, .int .u8 sx, .int .u8 sy, .int .u8 wx, .int .u8 wy] 72)
  have LP := Lib.hid (show n_ ≤ w.heap.size + 0 from Nat.le_add_right_of_le (Nat.le_trans HN.out BB.out.size))
  simp only [Nat.add_zero] at LP
  clear Q_
  go_upto_region 1 with (fail)
  generalize (w.alloc (.cells #[.int .u8 c, .int .u8 sx, .int .u8 sy, .int .u8 wx, .int .u8 wy] 72)) = u0 at B0 P0 ⊢
  generalize w.heap.size = pb at P0 LP  ⊢
  have B1 := Lib.hid B0.out.drew
  have P1 := Lib.hid P0.out.drew
  clear B0 P0
  refine wp_region_held_drew (S := (fun w' => ∀ o, w'.cell? ⟨pb, o, none⟩ = (#[.int .u8 c, .int .u8 sx, .int .u8 sy, .int .u8 wx, .int .u8 wy])[o]?)) (by kernel_rfl) P1.out.2.1 (fun hHeld => ?_)
  generalize World.drew _ = u1 at hHeld B1 P1 ⊢
  refine wpAnyH_take (i := 0) (oi := { dst := some 9, op := Go.Op.load 72 (Go.Operand.tmp 4), type := 72, pos := "ref.go:65", after := #[], guard := none }) (v := ?v81) rfl (by kernel_rfl) (by kernel_rfl) (by kernel_rfl) (fun _ _ _ h => h) (Or.inl ⟨by rfl, ?y81⟩) (by assumption) ?z81
  case y81 => (intro w hSw; (try dsimp only at hSw); go_simp) <;> with_reducible rfl
  try simp only [Act.put, List.setIfInBounds_toArray, List.set_cons_zero, List.set_cons_succ]
  refine wpAnyH_take (i := 1) (oi := { dst := some 10, op := Go.Op.move (Go.Operand.tmp 1), type := 31, pos := "ref.go:65", after := #[], guard := none }) (v := ?v82) rfl (by kernel_rfl) (by kernel_rfl) (by kernel_rfl) (fun _ _ _ h => h) (Or.inl ⟨by rfl, ?y82⟩) (by assumption) ?z82
  case y82 => (intro w hSw; (try dsimp only at hSw); go_simp) <;> with_reducible rfl
  try simp only [Act.put, List.setIfInBounds_toArray, List.set_cons_zero, List.set_cons_succ]
  refine wpAnyH_take (i := 2) (oi := { dst := some 11, op := Go.Op.fieldAddr 72 (Go.Operand.tmp 4) 0, type := 0, pos := "ref.go:65", after := #[], guard := none }) (v := ?v83) rfl (by kernel_rfl) (by kernel_rfl) (by kernel_rfl) (fun _ _ _ h => h) (Or.inl ⟨by rfl, ?y83⟩) (by assumption) ?z83
  case y83 => (intro w hSw; (try dsimp only at hSw); go_simp) <;> with_reducible rfl
  try simp only [Act.put, List.setIfInBounds_toArray, List.set_cons_zero, List.set_cons_succ]
  refine wpAnyH_take (i := 3) (oi := { dst := some 12, op := Go.Op.load 5 (Go.Operand.tmp 11), type := 5, pos := "ref.go:65", after := #[{ on := 2, ground := Go.Ground.data }], guard := none }) (v := ?v84) rfl (by kernel_rfl) (by kernel_rfl) (by kernel_rfl) (fun _ _ _ h => h) (Or.inl ⟨by rfl, ?y84⟩) (by assumption) ?z84
  case y84 => (intro w hSw; (try dsimp only at hSw); go_simp) <;> with_reducible rfl
  try simp only [Act.put, List.setIfInBounds_toArray, List.set_cons_zero, List.set_cons_succ]
  refine wpAnyH_take (i := 6) (oi := { dst := some 15, op := Go.Op.move (Go.Operand.tmp 2), type := 3, pos := "ref.go:65", after := #[], guard := none }) (v := ?v85) rfl (by kernel_rfl) (by kernel_rfl) (by kernel_rfl) (fun _ _ _ h => h) (Or.inl ⟨by rfl, ?y85⟩) (by assumption) ?z85
  case y85 => (intro w hSw; (try dsimp only at hSw); go_simp) <;> with_reducible rfl
  try simp only [Act.put, List.setIfInBounds_toArray, List.set_cons_zero, List.set_cons_succ]
  refine wpAnyH_take (i := 7) (oi := { dst := some 16, op := Go.Op.move (Go.Operand.tmp 3), type := 3, pos := "ref.go:65", after := #[], guard := none }) (v := ?v86) rfl (by kernel_rfl) (by kernel_rfl) (by kernel_rfl) (fun _ _ _ h => h) (Or.inl ⟨by rfl, ?y86⟩) (by assumption) ?z86
  case y86 => (intro w hSw; (try dsimp only at hSw); go_simp) <;> with_reducible rfl
  try simp only [Act.put, List.setIfInBounds_toArray, List.set_cons_zero, List.set_cons_succ]
  refine wpAnyH_ready (rs := [4]) (by kernel_rfl) (by simp) ?_
  refine (AllReadyH.cons (o := { dst := some 13, op := Go.Op.call { callee := Go.Callee.value (Go.Operand.func 63), args := #[Go.Operand.tmp 12, Go.Operand.const (Go.Value.int Go.IntKind.i64 6)], argTypes := #[5, 3] }, type := 3, pos := "ref.go:65", after := #[{ on := 3, ground := Go.Ground.data }], guard := none }) rfl (fun K hK => ?_) AllReadyH.nil)
  · skip
    go_simp
    with_reducible refine (SB.out _).mono ?_
    rintro q_ u2 ⟨rfl, hb⟩
    subst hb
    have B2 := B1
    have P2 := P1
    clear B1 P1
    refine hK.out _ _ ?s87 (fun hNew => ?r87)
    case s87 => exact P2.out.2.1
    clear hK K hHeld
    have hHeld := hNew
    clear hNew
    refine wpAnyH_take (i := 5) (oi := { dst := some 14, op := Go.Op.binOp Go.BinOp.eql 3 (Go.Operand.tmp 13) (Go.Operand.const (Go.Value.int Go.IntKind.i64 1)) 3, type := 4, pos := "ref.go:65", after := #[{ on := 4, ground := Go.Ground.data }], guard := none }) (v := ?v88) rfl (by kernel_rfl) (by kernel_rfl) (by kernel_rfl) (fun _ _ _ h => h) (Or.inl ⟨by rfl, ?y88⟩) (by assumption) ?z88
    case y88 => (intro w hSw; (try dsimp only at hSw); go_simp) <;> with_reducible rfl
    try simp only [Act.put, List.setIfInBounds_toArray, List.set_cons_zero, List.set_cons_succ]
    refine wpAnyH_ready (rs := [8]) (by kernel_rfl) (by simp) ?_
    refine (AllReadyH.cons (o := { dst := some 17, op := Go.Op.call { callee := Go.Callee.value (Go.Operand.func 75), args := #[Go.Operand.tmp 9, Go.Operand.tmp 10, Go.Operand.tmp 14, Go.Operand.tmp 15, Go.Operand.tmp 16], argTypes := #[72, 31, 4, 3, 3] }, type := 5, pos := "ref.go:65", after := #[{ on := 0, ground := Go.Ground.data }, { on := 1, ground := Go.Ground.data }, { on := 5, ground := Go.Ground.data }, { on := 6, ground := Go.Ground.data }, { on := 7, ground := Go.Ground.data }, { on := 4, ground := Go.Ground.chain }], guard := none }) rfl (fun K hK => ?_) AllReadyH.nil)
    · skip
      go_simp
      with_reducible refine (SP.out _ (HM0.out.at HN.out B2.out)).mono ?_
      rintro q_ u3 ⟨rfl, hb⟩
      have B3 := Lib.hid (vian HN.out B2.out hb)
      have P3 := Lib.hid (P2.out.below hb)
      clear hb
      clear B2 P2
      refine hK.out _ _ ?s89 (fun hNew => ?r89)
      case s89 => exact P3.out.2.1
      clear hK K hHeld
      have hHeld := hNew
      clear hNew
      refine wpAnyH_take (i := 9) (oi := { dst := some 8, op := Go.Op.assign (Go.Operand.tmp 17), type := 5, pos := "ref.go:65", after := #[{ on := 8, ground := Go.Ground.data }, { on := 8, ground := Go.Ground.chain }, { on := 0, ground := Go.Ground.phase }, { on := 1, ground := Go.Ground.phase }, { on := 2, ground := Go.Ground.phase }, { on := 3, ground := Go.Ground.phase }, { on := 4, ground := Go.Ground.phase }, { on := 5, ground := Go.Ground.phase }, { on := 6, ground := Go.Ground.phase }, { on := 7, ground := Go.Ground.phase }, { on := 8, ground := Go.Ground.phase }], guard := none }) (v := ?v90) rfl (by kernel_rfl) (by kernel_rfl) (by kernel_rfl) (fun _ _ _ h => h) (Or.inl ⟨by rfl, ?y90⟩) (by assumption) ?z90
      case y90 => (intro w hSw; (try dsimp only at hSw); go_simp) <;> with_reducible rfl
      try simp only [Act.put, List.setIfInBounds_toArray, List.set_cons_zero, List.set_cons_succ]
      refine wpAnyH_done (by kernel_rfl) ?_ _
      clear hHeld
      go_wp2_with (fail)
      all_goals exact bodyPost_ret (v := .int .u8 d) (by simp [results, Try.results66, go_sem]) rfl ⟨rfl, B3.out⟩
end Go.Proofs.Ytpfbodmadmneiaa
