/-
  The next line, and the row of a line: for every unit; no condition but that each number fits.
-/
import Derived.Test.YtpfbodmadmneiaaPw
import Derived.Test.YtpfbodmadmneiaaLnp
import Derived.Test.YtpfbodmadmneiaaLn
import Derived.Deep.Cut
import Derived.BigQuiet
import Derived.WalkSmall
namespace Go.Proofs.Ytpfbodmadmneiaa
open Go.ChangeShapes Go.WideShapes Go.ChangeAt Go.RowKit
set_option linter.unusedVariables false
set_option linter.unusedSimpArgs false
set_option maxRecDepth 100000
theorem keeps_new {b x : Nat} {w0 u u' : World} (h : Keeps b w0 u) (hx : w0.heap.size ≤ x) (hk : Keeps x u u') : Keeps b w0 u' :=
  ⟨hk.os.trans h.os, hk.tape.trans h.tape, hk.output.trans h.output, Nat.le_trans h.size hk.size, fun k h1 h2 => (hk.block k (Nat.lt_of_lt_of_le h1 h.size) (by omega)).trans (h.block k h1 h2)⟩
theorem r80 : IsRow 80 5 := ⟨⟨_, Try.underlying80, rfl⟩, by kernel_rfl⟩
theorem five_one (p q r s v : Int) : (#[.int .u8 p, .int .u8 q, .int .u8 r, .int .u8 s, .int .u8 v] : Array Value).all (·.oneCell') = true := by simp [Value.oneCell']
set_option maxHeartbeats 2000000 in
theorem next_144 (b : Nat) (m : M) (L : Int) (hL : m 8356 = L) (L0 : 0 ≤ L)  (fr : Int) (hfr : m 8365 = fr) (fr0 : 0 ≤ fr) (fr1 : fr < 65536) (ow : Int) (how : m 8364 = ow) (ow0 : 0 ≤ ow) (ow1 : ow < 256)  (L1 : L < 154) (N : Int) (hN : L + 1 = N) (g : (N == 144) = true) (w : World) (h : Has w b (encU m)) : Calls Try.prog 45 #[.pointer (some ⟨b, 0, none⟩)] w fun q_ w' => q_ = .returned (.int .u8 1) ∧ Has w' b (encU (upd (upd (upd m 8363 0) 8356 N) 8365 ((fr + 1) % 65536))) ∧ Keeps b w w' := by
  suffices hall : ∀ w0 : World, Keeps b w0 w → Calls Try.prog 45 #[.pointer (some ⟨b, 0, none⟩)] w fun q_ w' => q_ = .returned (.int .u8 1) ∧ Has w' b (encU (upd (upd (upd m 8363 0) 8356 N) 8365 ((fr + 1) % 65536))) ∧ Keeps b w0 w' from hall w (Keeps.refl b w)
  intro w0 hK
  have P0 := Lib.hid h
  have K0 := Lib.hid hK
  clear h hK
  have HL := Lib.hid hL
  clear hL
  have Hfr := Lib.hid hfr
  clear hfr
  have How := Lib.hid how
  clear how
  have hw : IntKind.u8.wrap (L + 1) = N := by rw [IntKind.wrap_u8]; omega
  have HN := Lib.hid hN
  clear hN
  go_enter Try.func45, Try.ntmps45
  obtain ⟨hc, hf⟩ := P0.out.out
  go_wp2_with (refine ust_u P0.out rfl _ _ rfl _ rfl _ rfl (by omega) (by omega) (by omega) ?_)
  intro u1 hP hk
  clear hc hf
  replace hP : Has u1 b (encU (upd m 8363 0)) := hP
  have P1 := Lib.hid hP
  have K1 := Lib.hid (K0.out.trans hk)
  clear hP hk P0 K0
  try simp only [Act.put]
  have e_L : (encU (upd m 8363 0))[8356]? = some (.int .u8 L) := (encU_u _ 8356 (by decide) (by decide) (by decide)).trans (congrArg (fun x => some (Value.int .u8 x)) (HL.out))
  go_upto_region 2 with (fail)
  have P2 := Lib.hid P1.out.drew
  have K2 := Lib.hid (K1.out.drew)
  clear P1 K1
  refine wp_region_held_drew (S := (fun w' => True)) (by kernel_rfl) trivial (fun hHeld => ?_)
  generalize World.drew _ = u2 at hHeld P2 K2 ⊢
  refine wpAnyH_take (i := 0) (oi := { dst := some 6, op := Go.Op.move (Go.Operand.tmp 0), type := 25, pos := "ppu.go:141", after := #[], guard := none }) (v := ?v1) rfl (by kernel_rfl) (by kernel_rfl) (by kernel_rfl) (fun _ _ _ h => h) (Or.inl ⟨by rfl, ?y1⟩) (by assumption) ?z1
  case y1 => (intro w hSw; (try dsimp only at hSw); go_simp) <;> with_reducible rfl
  try simp only [Act.put, List.setIfInBounds_toArray, List.set_cons_zero, List.set_cons_succ]
  refine wpAnyH_take (i := 1) (oi := { dst := some 7, op := Go.Op.nilCheck (Go.Operand.tmp 6), type := 0, pos := "ppu.go:141", after := #[{ on := 0, ground := Go.Ground.data }], guard := none }) (v := ?v2) rfl (by kernel_rfl) (by kernel_rfl) (by kernel_rfl) (fun _ _ _ h => h) (Or.inl ⟨by rfl, ?y2⟩) (by assumption) ?z2
  case y2 => (intro w hSw; (try dsimp only at hSw); go_simp) <;> with_reducible rfl
  try simp only [Act.put, List.setIfInBounds_toArray, List.set_cons_zero, List.set_cons_succ]
  refine wpAnyH_take (i := 2) (oi := { dst := some 8, op := Go.Op.fieldAddr 61 (Go.Operand.tmp 7) 2, type := 0, pos := "ppu.go:141", after := #[{ on := 1, ground := Go.Ground.data }], guard := none }) (v := ?v3) rfl (by kernel_rfl) (by kernel_rfl) (by kernel_rfl) (fun _ _ _ h => h) (Or.inl ⟨by rfl, ?y3⟩) (by assumption) ?z3
  case y3 => (intro w hSw; (try dsimp only at hSw); go_simp) <;> with_reducible rfl
  try simp only [Act.put, List.setIfInBounds_toArray, List.set_cons_zero, List.set_cons_succ]
  refine wpAnyH_take (i := 3) (oi := { dst := some 9, op := Go.Op.indexAddr 59 (Go.Operand.tmp 8) (Go.Operand.const (Go.Value.int Go.IntKind.i64 4)), type := 0, pos := "ppu.go:141", after := #[{ on := 2, ground := Go.Ground.data }], guard := none }) (v := ?v4) rfl (by kernel_rfl) (by kernel_rfl) (by kernel_rfl) (fun _ _ _ h => h) (Or.inl ⟨by rfl, ?y4⟩) (by assumption) ?z4
  case y4 => (intro w hSw; (try dsimp only at hSw); go_simp) <;> with_reducible rfl
  try simp only [Act.put, List.setIfInBounds_toArray, List.set_cons_zero, List.set_cons_succ]
  refine wpAnyH_take (i := 6) (oi := { dst := some 12, op := Go.Op.nilCheck (Go.Operand.tmp 6), type := 0, pos := "ppu.go:141", after := #[{ on := 0, ground := Go.Ground.data }], guard := none }) (v := ?v5) rfl (by kernel_rfl) (by kernel_rfl) (by kernel_rfl) (fun _ _ _ h => h) (Or.inl ⟨by rfl, ?y5⟩) (by assumption) ?z5
  case y5 => (intro w hSw; (try dsimp only at hSw); go_simp) <;> with_reducible rfl
  try simp only [Act.put, List.setIfInBounds_toArray, List.set_cons_zero, List.set_cons_succ]
  refine wpAnyH_take (i := 7) (oi := { dst := some 13, op := Go.Op.fieldAddr 61 (Go.Operand.tmp 12) 2, type := 0, pos := "ppu.go:141", after := #[{ on := 6, ground := Go.Ground.data }], guard := none }) (v := ?v6) rfl (by kernel_rfl) (by kernel_rfl) (by kernel_rfl) (fun _ _ _ h => h) (Or.inl ⟨by rfl, ?y6⟩) (by assumption) ?z6
  case y6 => (intro w hSw; (try dsimp only at hSw); go_simp) <;> with_reducible rfl
  try simp only [Act.put, List.setIfInBounds_toArray, List.set_cons_zero, List.set_cons_succ]
  refine wpAnyH_ready (rs := [4]) (by kernel_rfl) (by simp) ?_
  refine (AllReadyH.cons (o := { dst := some 10, op := Go.Op.load 5 (Go.Operand.tmp 9), type := 5, pos := "ppu.go:141", after := #[{ on := 3, ground := Go.Ground.data }], guard := none }) rfl (fun K hK => ?_) AllReadyH.nil)
  · skip
    obtain ⟨hc, hfz⟩ := P2.out.out
    go_simp
    clear hc hfz
    have P3 := P2
    have K3 := K2
    clear P2 K2
    refine hK.out _ _ ?s7 (fun hNew => ?r7)
    case s7 => exact trivial
    clear hK K hHeld
    have hHeld := hNew
    clear hNew
    refine wpAnyH_take (i := 5) (oi := { dst := some 11, op := Go.Op.binOp Go.BinOp.add 5 (Go.Operand.tmp 10) (Go.Operand.const (Go.Value.int Go.IntKind.u8 1)) 5, type := 5, pos := "ppu.go:141", after := #[{ on := 4, ground := Go.Ground.data }], guard := none }) (v := ?v8) rfl (by kernel_rfl) (by kernel_rfl) (by kernel_rfl) (fun _ _ _ h => h) (Or.inl ⟨by rfl, ?y8⟩) (by assumption) ?z8
    case y8 => (intro w hSw; (try dsimp only at hSw); go_simp) <;> with_reducible rfl
    try simp only [Act.put, List.setIfInBounds_toArray, List.set_cons_zero, List.set_cons_succ]
    refine wpAnyH_take (i := 8) (oi := { dst := some 14, op := Go.Op.indexAddr 59 (Go.Operand.tmp 13) (Go.Operand.const (Go.Value.int Go.IntKind.i64 4)), type := 0, pos := "ppu.go:141", after := #[{ on := 7, ground := Go.Ground.data }, { on := 0, ground := Go.Ground.phase }, { on := 1, ground := Go.Ground.phase }, { on := 2, ground := Go.Ground.phase }, { on := 3, ground := Go.Ground.phase }, { on := 4, ground := Go.Ground.phase }, { on := 5, ground := Go.Ground.phase }], guard := none }) (v := ?v9) rfl (by kernel_rfl) (by kernel_rfl) (by kernel_rfl) (fun _ _ _ h => h) (Or.inl ⟨by rfl, ?y9⟩) (by assumption) ?z9
    case y9 => (intro w hSw; (try dsimp only at hSw); go_simp) <;> with_reducible rfl
    try simp only [Act.put, List.setIfInBounds_toArray, List.set_cons_zero, List.set_cons_succ]
    refine wpAnyH_ready (rs := [9]) (by kernel_rfl) (by simp) ?_
    refine (AllReadyH.cons (o := { dst := none, op := Go.Op.store 5 (Go.Operand.tmp 14) (Go.Operand.tmp 11), type := 0, pos := "ppu.go:141", after := #[{ on := 8, ground := Go.Ground.data }, { on := 5, ground := Go.Ground.data }, { on := 0, ground := Go.Ground.phase }, { on := 1, ground := Go.Ground.phase }, { on := 2, ground := Go.Ground.phase }, { on := 3, ground := Go.Ground.phase }, { on := 4, ground := Go.Ground.phase }, { on := 5, ground := Go.Ground.phase }], guard := none }) rfl (fun K hK => ?_) AllReadyH.nil)
    · skip
      have e9 := encU_u (upd m 8363 0) 8356 (by omega) (by omega) (by omega)
      obtain ⟨hc, hfz⟩ := P3.out.out
      go_simp
      clear hc hfz e9
      have P4 := Lib.hid (P3.out.setu 8356 (N) (by omega) (by omega) (by omega))
      have K4 := Lib.hid (K3.out.setCell 8356 (.int .u8 (N)))
      clear P3 K3
      refine hK.out _ _ ?s10 (fun hNew => ?r10)
      case s10 => exact trivial
      clear hK K hHeld
      have hHeld := hNew
      clear hNew
      generalize World.setCell _ _ _ = u4 at hHeld P4 K4 ⊢
      refine wpAnyH_done (by kernel_rfl) ?_ _
      clear hHeld
      clear e_L
      obtain ⟨hc, hf⟩ := P4.out.out
      have e_L : (encU (upd (upd m 8363 0) 8356 N))[8356]? = some (.int .u8 N) := (encU_u _ 8356 (by decide) (by decide) (by decide)).trans (congrArg (fun x => some (Value.int .u8 x)) (upd_same _ _ _))
      have e_fr : (encU (upd (upd m 8363 0) 8356 N))[8365]? = some (.int .u16 fr) := (encU_f _).trans (congrArg (fun x => some (Value.int .u16 x)) (Hfr.out))
      have hw2 : IntKind.u16.wrap (fr + 1) = (fr + 1) % 65536 := by rw [IntKind.wrap_u16]
      go_wp2_with (refine store_f P4.out rfl _ _ rfl rfl _ rfl ?_)
      intro u5 hP hk
      clear hc hf e_L e_fr
      replace hP : Has u5 b (encU (upd (upd (upd m 8363 0) 8356 N) 8365 ((fr + 1) % 65536))) := hP
      have P5 := Lib.hid hP
      have K5 := Lib.hid (K4.out.trans hk)
      clear hP hk P4 K4
      try simp only [Act.put]
      go_wp2
      all_goals first | exact bodyPost_ret (v := .int .u8 1) (by simp [results, Try.results45, go_sem]) rfl ⟨rfl, P5.out, K5.out⟩ | exact bodyPost_end (v := .int .u8 1) (by simp [results, Try.results45, go_sem]) rfl ⟨rfl, P5.out, K5.out⟩
set_option maxHeartbeats 2000000 in
theorem next_154 (b : Nat) (m : M) (L : Int) (hL : m 8356 = L) (L0 : 0 ≤ L)  (fr : Int) (hfr : m 8365 = fr) (fr0 : 0 ≤ fr) (fr1 : fr < 65536) (ow : Int) (how : m 8364 = ow) (ow0 : 0 ≤ ow) (ow1 : ow < 256)  (L1 : L < 154) (N : Int) (hN : L + 1 = N) (g1 : (N == 144) = false) (g : (N == 154) = true) (w : World) (h : Has w b (encU m)) : Calls Try.prog 45 #[.pointer (some ⟨b, 0, none⟩)] w fun q_ w' => q_ = .returned (.int .u8 0) ∧ Has w' b (encU (upd (upd (upd (upd m 8363 0) 8356 N) 8356 0) 8364 0)) ∧ Keeps b w w' := by
  suffices hall : ∀ w0 : World, Keeps b w0 w → Calls Try.prog 45 #[.pointer (some ⟨b, 0, none⟩)] w fun q_ w' => q_ = .returned (.int .u8 0) ∧ Has w' b (encU (upd (upd (upd (upd m 8363 0) 8356 N) 8356 0) 8364 0)) ∧ Keeps b w0 w' from hall w (Keeps.refl b w)
  intro w0 hK
  have P0 := Lib.hid h
  have K0 := Lib.hid hK
  clear h hK
  have HL := Lib.hid hL
  clear hL
  have Hfr := Lib.hid hfr
  clear hfr
  have How := Lib.hid how
  clear how
  have hw : IntKind.u8.wrap (L + 1) = N := by rw [IntKind.wrap_u8]; omega
  have HN := Lib.hid hN
  clear hN
  go_enter Try.func45, Try.ntmps45
  obtain ⟨hc, hf⟩ := P0.out.out
  go_wp2_with (refine ust_u P0.out rfl _ _ rfl _ rfl _ rfl (by omega) (by omega) (by omega) ?_)
  intro u1 hP hk
  clear hc hf
  replace hP : Has u1 b (encU (upd m 8363 0)) := hP
  have P1 := Lib.hid hP
  have K1 := Lib.hid (K0.out.trans hk)
  clear hP hk P0 K0
  try simp only [Act.put]
  have e_L : (encU (upd m 8363 0))[8356]? = some (.int .u8 L) := (encU_u _ 8356 (by decide) (by decide) (by decide)).trans (congrArg (fun x => some (Value.int .u8 x)) (HL.out))
  go_upto_region 2 with (fail)
  have P2 := Lib.hid P1.out.drew
  have K2 := Lib.hid (K1.out.drew)
  clear P1 K1
  refine wp_region_held_drew (S := (fun w' => True)) (by kernel_rfl) trivial (fun hHeld => ?_)
  generalize World.drew _ = u2 at hHeld P2 K2 ⊢
  refine wpAnyH_take (i := 0) (oi := { dst := some 6, op := Go.Op.move (Go.Operand.tmp 0), type := 25, pos := "ppu.go:141", after := #[], guard := none }) (v := ?v11) rfl (by kernel_rfl) (by kernel_rfl) (by kernel_rfl) (fun _ _ _ h => h) (Or.inl ⟨by rfl, ?y11⟩) (by assumption) ?z11
  case y11 => (intro w hSw; (try dsimp only at hSw); go_simp) <;> with_reducible rfl
  try simp only [Act.put, List.setIfInBounds_toArray, List.set_cons_zero, List.set_cons_succ]
  refine wpAnyH_take (i := 1) (oi := { dst := some 7, op := Go.Op.nilCheck (Go.Operand.tmp 6), type := 0, pos := "ppu.go:141", after := #[{ on := 0, ground := Go.Ground.data }], guard := none }) (v := ?v12) rfl (by kernel_rfl) (by kernel_rfl) (by kernel_rfl) (fun _ _ _ h => h) (Or.inl ⟨by rfl, ?y12⟩) (by assumption) ?z12
  case y12 => (intro w hSw; (try dsimp only at hSw); go_simp) <;> with_reducible rfl
  try simp only [Act.put, List.setIfInBounds_toArray, List.set_cons_zero, List.set_cons_succ]
  refine wpAnyH_take (i := 2) (oi := { dst := some 8, op := Go.Op.fieldAddr 61 (Go.Operand.tmp 7) 2, type := 0, pos := "ppu.go:141", after := #[{ on := 1, ground := Go.Ground.data }], guard := none }) (v := ?v13) rfl (by kernel_rfl) (by kernel_rfl) (by kernel_rfl) (fun _ _ _ h => h) (Or.inl ⟨by rfl, ?y13⟩) (by assumption) ?z13
  case y13 => (intro w hSw; (try dsimp only at hSw); go_simp) <;> with_reducible rfl
  try simp only [Act.put, List.setIfInBounds_toArray, List.set_cons_zero, List.set_cons_succ]
  refine wpAnyH_take (i := 3) (oi := { dst := some 9, op := Go.Op.indexAddr 59 (Go.Operand.tmp 8) (Go.Operand.const (Go.Value.int Go.IntKind.i64 4)), type := 0, pos := "ppu.go:141", after := #[{ on := 2, ground := Go.Ground.data }], guard := none }) (v := ?v14) rfl (by kernel_rfl) (by kernel_rfl) (by kernel_rfl) (fun _ _ _ h => h) (Or.inl ⟨by rfl, ?y14⟩) (by assumption) ?z14
  case y14 => (intro w hSw; (try dsimp only at hSw); go_simp) <;> with_reducible rfl
  try simp only [Act.put, List.setIfInBounds_toArray, List.set_cons_zero, List.set_cons_succ]
  refine wpAnyH_take (i := 6) (oi := { dst := some 12, op := Go.Op.nilCheck (Go.Operand.tmp 6), type := 0, pos := "ppu.go:141", after := #[{ on := 0, ground := Go.Ground.data }], guard := none }) (v := ?v15) rfl (by kernel_rfl) (by kernel_rfl) (by kernel_rfl) (fun _ _ _ h => h) (Or.inl ⟨by rfl, ?y15⟩) (by assumption) ?z15
  case y15 => (intro w hSw; (try dsimp only at hSw); go_simp) <;> with_reducible rfl
  try simp only [Act.put, List.setIfInBounds_toArray, List.set_cons_zero, List.set_cons_succ]
  refine wpAnyH_take (i := 7) (oi := { dst := some 13, op := Go.Op.fieldAddr 61 (Go.Operand.tmp 12) 2, type := 0, pos := "ppu.go:141", after := #[{ on := 6, ground := Go.Ground.data }], guard := none }) (v := ?v16) rfl (by kernel_rfl) (by kernel_rfl) (by kernel_rfl) (fun _ _ _ h => h) (Or.inl ⟨by rfl, ?y16⟩) (by assumption) ?z16
  case y16 => (intro w hSw; (try dsimp only at hSw); go_simp) <;> with_reducible rfl
  try simp only [Act.put, List.setIfInBounds_toArray, List.set_cons_zero, List.set_cons_succ]
  refine wpAnyH_ready (rs := [4]) (by kernel_rfl) (by simp) ?_
  refine (AllReadyH.cons (o := { dst := some 10, op := Go.Op.load 5 (Go.Operand.tmp 9), type := 5, pos := "ppu.go:141", after := #[{ on := 3, ground := Go.Ground.data }], guard := none }) rfl (fun K hK => ?_) AllReadyH.nil)
  · skip
    obtain ⟨hc, hfz⟩ := P2.out.out
    go_simp
    clear hc hfz
    have P3 := P2
    have K3 := K2
    clear P2 K2
    refine hK.out _ _ ?s17 (fun hNew => ?r17)
    case s17 => exact trivial
    clear hK K hHeld
    have hHeld := hNew
    clear hNew
    refine wpAnyH_take (i := 5) (oi := { dst := some 11, op := Go.Op.binOp Go.BinOp.add 5 (Go.Operand.tmp 10) (Go.Operand.const (Go.Value.int Go.IntKind.u8 1)) 5, type := 5, pos := "ppu.go:141", after := #[{ on := 4, ground := Go.Ground.data }], guard := none }) (v := ?v18) rfl (by kernel_rfl) (by kernel_rfl) (by kernel_rfl) (fun _ _ _ h => h) (Or.inl ⟨by rfl, ?y18⟩) (by assumption) ?z18
    case y18 => (intro w hSw; (try dsimp only at hSw); go_simp) <;> with_reducible rfl
    try simp only [Act.put, List.setIfInBounds_toArray, List.set_cons_zero, List.set_cons_succ]
    refine wpAnyH_take (i := 8) (oi := { dst := some 14, op := Go.Op.indexAddr 59 (Go.Operand.tmp 13) (Go.Operand.const (Go.Value.int Go.IntKind.i64 4)), type := 0, pos := "ppu.go:141", after := #[{ on := 7, ground := Go.Ground.data }, { on := 0, ground := Go.Ground.phase }, { on := 1, ground := Go.Ground.phase }, { on := 2, ground := Go.Ground.phase }, { on := 3, ground := Go.Ground.phase }, { on := 4, ground := Go.Ground.phase }, { on := 5, ground := Go.Ground.phase }], guard := none }) (v := ?v19) rfl (by kernel_rfl) (by kernel_rfl) (by kernel_rfl) (fun _ _ _ h => h) (Or.inl ⟨by rfl, ?y19⟩) (by assumption) ?z19
    case y19 => (intro w hSw; (try dsimp only at hSw); go_simp) <;> with_reducible rfl
    try simp only [Act.put, List.setIfInBounds_toArray, List.set_cons_zero, List.set_cons_succ]
    refine wpAnyH_ready (rs := [9]) (by kernel_rfl) (by simp) ?_
    refine (AllReadyH.cons (o := { dst := none, op := Go.Op.store 5 (Go.Operand.tmp 14) (Go.Operand.tmp 11), type := 0, pos := "ppu.go:141", after := #[{ on := 8, ground := Go.Ground.data }, { on := 5, ground := Go.Ground.data }, { on := 0, ground := Go.Ground.phase }, { on := 1, ground := Go.Ground.phase }, { on := 2, ground := Go.Ground.phase }, { on := 3, ground := Go.Ground.phase }, { on := 4, ground := Go.Ground.phase }, { on := 5, ground := Go.Ground.phase }], guard := none }) rfl (fun K hK => ?_) AllReadyH.nil)
    · skip
      have e9 := encU_u (upd m 8363 0) 8356 (by omega) (by omega) (by omega)
      obtain ⟨hc, hfz⟩ := P3.out.out
      go_simp
      clear hc hfz e9
      have P4 := Lib.hid (P3.out.setu 8356 (N) (by omega) (by omega) (by omega))
      have K4 := Lib.hid (K3.out.setCell 8356 (.int .u8 (N)))
      clear P3 K3
      refine hK.out _ _ ?s20 (fun hNew => ?r20)
      case s20 => exact trivial
      clear hK K hHeld
      have hHeld := hNew
      clear hNew
      generalize World.setCell _ _ _ = u4 at hHeld P4 K4 ⊢
      refine wpAnyH_done (by kernel_rfl) ?_ _
      clear hHeld
      clear e_L
      obtain ⟨hc, hf⟩ := P4.out.out
      have e_L : (encU (upd (upd m 8363 0) 8356 N))[8356]? = some (.int .u8 N) := (encU_u _ 8356 (by decide) (by decide) (by decide)).trans (congrArg (fun x => some (Value.int .u8 x)) (upd_same _ _ _))
      go_wp2_with (refine ust_u P4.out rfl _ _ rfl _ rfl _ rfl (by omega) (by omega) (by omega) ?_)
      intro u5 hP hk
      clear hc hf e_L
      replace hP : Has u5 b (encU (upd (upd (upd m 8363 0) 8356 N) 8356 0)) := hP
      have P5 := Lib.hid hP
      have K5 := Lib.hid (K4.out.trans hk)
      clear hP hk P4 K4
      try simp only [Act.put]
      obtain ⟨hc, hf⟩ := P5.out.out
      go_wp2_with (refine ust_u P5.out rfl _ _ rfl _ rfl _ rfl (by omega) (by omega) (by omega) ?_)
      intro u6 hP hk
      clear hc hf
      replace hP : Has u6 b (encU (upd (upd (upd (upd m 8363 0) 8356 N) 8356 0) 8364 0)) := hP
      have P6 := Lib.hid hP
      have K6 := Lib.hid (K5.out.trans hk)
      clear hP hk P5 K5
      try simp only [Act.put]
      go_wp2
      all_goals first | exact bodyPost_ret (v := .int .u8 0) (by simp [results, Try.results45, go_sem]) rfl ⟨rfl, P6.out, K6.out⟩ | exact bodyPost_end (v := .int .u8 0) (by simp [results, Try.results45, go_sem]) rfl ⟨rfl, P6.out, K6.out⟩
set_option maxHeartbeats 2000000 in
theorem next_x (b : Nat) (m : M) (L : Int) (hL : m 8356 = L) (L0 : 0 ≤ L)  (fr : Int) (hfr : m 8365 = fr) (fr0 : 0 ≤ fr) (fr1 : fr < 65536) (ow : Int) (how : m 8364 = ow) (ow0 : 0 ≤ ow) (ow1 : ow < 256)  (L1 : L < 154) (N : Int) (hN : L + 1 = N) (g : (N == 144) = false) (g2 : (N == 154) = false) (w : World) (h : Has w b (encU m)) : Calls Try.prog 45 #[.pointer (some ⟨b, 0, none⟩)] w fun q_ w' => q_ = .returned (.int .u8 0) ∧ Has w' b (encU (upd (upd m 8363 0) 8356 N)) ∧ Keeps b w w' := by
  suffices hall : ∀ w0 : World, Keeps b w0 w → Calls Try.prog 45 #[.pointer (some ⟨b, 0, none⟩)] w fun q_ w' => q_ = .returned (.int .u8 0) ∧ Has w' b (encU (upd (upd m 8363 0) 8356 N)) ∧ Keeps b w0 w' from hall w (Keeps.refl b w)
  intro w0 hK
  have P0 := Lib.hid h
  have K0 := Lib.hid hK
  clear h hK
  have HL := Lib.hid hL
  clear hL
  have Hfr := Lib.hid hfr
  clear hfr
  have How := Lib.hid how
  clear how
  have hw : IntKind.u8.wrap (L + 1) = N := by rw [IntKind.wrap_u8]; omega
  have HN := Lib.hid hN
  clear hN
  go_enter Try.func45, Try.ntmps45
  obtain ⟨hc, hf⟩ := P0.out.out
  go_wp2_with (refine ust_u P0.out rfl _ _ rfl _ rfl _ rfl (by omega) (by omega) (by omega) ?_)
  intro u1 hP hk
  clear hc hf
  replace hP : Has u1 b (encU (upd m 8363 0)) := hP
  have P1 := Lib.hid hP
  have K1 := Lib.hid (K0.out.trans hk)
  clear hP hk P0 K0
  try simp only [Act.put]
  have e_L : (encU (upd m 8363 0))[8356]? = some (.int .u8 L) := (encU_u _ 8356 (by decide) (by decide) (by decide)).trans (congrArg (fun x => some (Value.int .u8 x)) (HL.out))
  go_upto_region 2 with (fail)
  have P2 := Lib.hid P1.out.drew
  have K2 := Lib.hid (K1.out.drew)
  clear P1 K1
  refine wp_region_held_drew (S := (fun w' => True)) (by kernel_rfl) trivial (fun hHeld => ?_)
  generalize World.drew _ = u2 at hHeld P2 K2 ⊢
  refine wpAnyH_take (i := 0) (oi := { dst := some 6, op := Go.Op.move (Go.Operand.tmp 0), type := 25, pos := "ppu.go:141", after := #[], guard := none }) (v := ?v21) rfl (by kernel_rfl) (by kernel_rfl) (by kernel_rfl) (fun _ _ _ h => h) (Or.inl ⟨by rfl, ?y21⟩) (by assumption) ?z21
  case y21 => (intro w hSw; (try dsimp only at hSw); go_simp) <;> with_reducible rfl
  try simp only [Act.put, List.setIfInBounds_toArray, List.set_cons_zero, List.set_cons_succ]
  refine wpAnyH_take (i := 1) (oi := { dst := some 7, op := Go.Op.nilCheck (Go.Operand.tmp 6), type := 0, pos := "ppu.go:141", after := #[{ on := 0, ground := Go.Ground.data }], guard := none }) (v := ?v22) rfl (by kernel_rfl) (by kernel_rfl) (by kernel_rfl) (fun _ _ _ h => h) (Or.inl ⟨by rfl, ?y22⟩) (by assumption) ?z22
  case y22 => (intro w hSw; (try dsimp only at hSw); go_simp) <;> with_reducible rfl
  try simp only [Act.put, List.setIfInBounds_toArray, List.set_cons_zero, List.set_cons_succ]
  refine wpAnyH_take (i := 2) (oi := { dst := some 8, op := Go.Op.fieldAddr 61 (Go.Operand.tmp 7) 2, type := 0, pos := "ppu.go:141", after := #[{ on := 1, ground := Go.Ground.data }], guard := none }) (v := ?v23) rfl (by kernel_rfl) (by kernel_rfl) (by kernel_rfl) (fun _ _ _ h => h) (Or.inl ⟨by rfl, ?y23⟩) (by assumption) ?z23
  case y23 => (intro w hSw; (try dsimp only at hSw); go_simp) <;> with_reducible rfl
  try simp only [Act.put, List.setIfInBounds_toArray, List.set_cons_zero, List.set_cons_succ]
  refine wpAnyH_take (i := 3) (oi := { dst := some 9, op := Go.Op.indexAddr 59 (Go.Operand.tmp 8) (Go.Operand.const (Go.Value.int Go.IntKind.i64 4)), type := 0, pos := "ppu.go:141", after := #[{ on := 2, ground := Go.Ground.data }], guard := none }) (v := ?v24) rfl (by kernel_rfl) (by kernel_rfl) (by kernel_rfl) (fun _ _ _ h => h) (Or.inl ⟨by rfl, ?y24⟩) (by assumption) ?z24
  case y24 => (intro w hSw; (try dsimp only at hSw); go_simp) <;> with_reducible rfl
  try simp only [Act.put, List.setIfInBounds_toArray, List.set_cons_zero, List.set_cons_succ]
  refine wpAnyH_take (i := 6) (oi := { dst := some 12, op := Go.Op.nilCheck (Go.Operand.tmp 6), type := 0, pos := "ppu.go:141", after := #[{ on := 0, ground := Go.Ground.data }], guard := none }) (v := ?v25) rfl (by kernel_rfl) (by kernel_rfl) (by kernel_rfl) (fun _ _ _ h => h) (Or.inl ⟨by rfl, ?y25⟩) (by assumption) ?z25
  case y25 => (intro w hSw; (try dsimp only at hSw); go_simp) <;> with_reducible rfl
  try simp only [Act.put, List.setIfInBounds_toArray, List.set_cons_zero, List.set_cons_succ]
  refine wpAnyH_take (i := 7) (oi := { dst := some 13, op := Go.Op.fieldAddr 61 (Go.Operand.tmp 12) 2, type := 0, pos := "ppu.go:141", after := #[{ on := 6, ground := Go.Ground.data }], guard := none }) (v := ?v26) rfl (by kernel_rfl) (by kernel_rfl) (by kernel_rfl) (fun _ _ _ h => h) (Or.inl ⟨by rfl, ?y26⟩) (by assumption) ?z26
  case y26 => (intro w hSw; (try dsimp only at hSw); go_simp) <;> with_reducible rfl
  try simp only [Act.put, List.setIfInBounds_toArray, List.set_cons_zero, List.set_cons_succ]
  refine wpAnyH_ready (rs := [4]) (by kernel_rfl) (by simp) ?_
  refine (AllReadyH.cons (o := { dst := some 10, op := Go.Op.load 5 (Go.Operand.tmp 9), type := 5, pos := "ppu.go:141", after := #[{ on := 3, ground := Go.Ground.data }], guard := none }) rfl (fun K hK => ?_) AllReadyH.nil)
  · skip
    obtain ⟨hc, hfz⟩ := P2.out.out
    go_simp
    clear hc hfz
    have P3 := P2
    have K3 := K2
    clear P2 K2
    refine hK.out _ _ ?s27 (fun hNew => ?r27)
    case s27 => exact trivial
    clear hK K hHeld
    have hHeld := hNew
    clear hNew
    refine wpAnyH_take (i := 5) (oi := { dst := some 11, op := Go.Op.binOp Go.BinOp.add 5 (Go.Operand.tmp 10) (Go.Operand.const (Go.Value.int Go.IntKind.u8 1)) 5, type := 5, pos := "ppu.go:141", after := #[{ on := 4, ground := Go.Ground.data }], guard := none }) (v := ?v28) rfl (by kernel_rfl) (by kernel_rfl) (by kernel_rfl) (fun _ _ _ h => h) (Or.inl ⟨by rfl, ?y28⟩) (by assumption) ?z28
    case y28 => (intro w hSw; (try dsimp only at hSw); go_simp) <;> with_reducible rfl
    try simp only [Act.put, List.setIfInBounds_toArray, List.set_cons_zero, List.set_cons_succ]
    refine wpAnyH_take (i := 8) (oi := { dst := some 14, op := Go.Op.indexAddr 59 (Go.Operand.tmp 13) (Go.Operand.const (Go.Value.int Go.IntKind.i64 4)), type := 0, pos := "ppu.go:141", after := #[{ on := 7, ground := Go.Ground.data }, { on := 0, ground := Go.Ground.phase }, { on := 1, ground := Go.Ground.phase }, { on := 2, ground := Go.Ground.phase }, { on := 3, ground := Go.Ground.phase }, { on := 4, ground := Go.Ground.phase }, { on := 5, ground := Go.Ground.phase }], guard := none }) (v := ?v29) rfl (by kernel_rfl) (by kernel_rfl) (by kernel_rfl) (fun _ _ _ h => h) (Or.inl ⟨by rfl, ?y29⟩) (by assumption) ?z29
    case y29 => (intro w hSw; (try dsimp only at hSw); go_simp) <;> with_reducible rfl
    try simp only [Act.put, List.setIfInBounds_toArray, List.set_cons_zero, List.set_cons_succ]
    refine wpAnyH_ready (rs := [9]) (by kernel_rfl) (by simp) ?_
    refine (AllReadyH.cons (o := { dst := none, op := Go.Op.store 5 (Go.Operand.tmp 14) (Go.Operand.tmp 11), type := 0, pos := "ppu.go:141", after := #[{ on := 8, ground := Go.Ground.data }, { on := 5, ground := Go.Ground.data }, { on := 0, ground := Go.Ground.phase }, { on := 1, ground := Go.Ground.phase }, { on := 2, ground := Go.Ground.phase }, { on := 3, ground := Go.Ground.phase }, { on := 4, ground := Go.Ground.phase }, { on := 5, ground := Go.Ground.phase }], guard := none }) rfl (fun K hK => ?_) AllReadyH.nil)
    · skip
      have e9 := encU_u (upd m 8363 0) 8356 (by omega) (by omega) (by omega)
      obtain ⟨hc, hfz⟩ := P3.out.out
      go_simp
      clear hc hfz e9
      have P4 := Lib.hid (P3.out.setu 8356 (N) (by omega) (by omega) (by omega))
      have K4 := Lib.hid (K3.out.setCell 8356 (.int .u8 (N)))
      clear P3 K3
      refine hK.out _ _ ?s30 (fun hNew => ?r30)
      case s30 => exact trivial
      clear hK K hHeld
      have hHeld := hNew
      clear hNew
      generalize World.setCell _ _ _ = u4 at hHeld P4 K4 ⊢
      refine wpAnyH_done (by kernel_rfl) ?_ _
      clear hHeld
      clear e_L
      obtain ⟨hc, hf⟩ := P4.out.out
      have e_L : (encU (upd (upd m 8363 0) 8356 N))[8356]? = some (.int .u8 N) := (encU_u _ 8356 (by decide) (by decide) (by decide)).trans (congrArg (fun x => some (Value.int .u8 x)) (upd_same _ _ _))
      go_wp2
      all_goals first | exact bodyPost_ret (v := .int .u8 0) (by simp [results, Try.results45, go_sem]) rfl ⟨rfl, P4.out, K4.out⟩ | exact bodyPost_end (v := .int .u8 0) (by simp [results, Try.results45, go_sem]) rfl ⟨rfl, P4.out, K4.out⟩
/-- The next line. -/
theorem next_c (b : Nat) (m : M) (B : ∀ o, o < 31407 → o ≠ 8365 → 0 ≤ m o ∧ m o < 256) (BF : 0 ≤ m 8365 ∧ m 8365 < 65536) (BL : m 8356 < 154) (w : World) (h : Has w b (encU m)) : Calls Try.prog 45 #[.pointer (some ⟨b, 0, none⟩)] w fun q_ w' => q_ = .returned (.int .u8 (nextR m)) ∧ Has w' b (encU (nextM m)) ∧ Keeps b w w' := by
  have b2 := B 8356 (by decide) (by decide)
  have b3 := B 8364 (by decide) (by decide)
  unfold nextR nextM lnM
  by_cases a : m 8356 + 1 = 144
  · rw [if_pos a, if_pos a]
    exact next_144 b m _ rfl b2.1 _ rfl BF.1 BF.2 _ rfl b3.1 b3.2 BL _ rfl (by simpa using a) w h
  · rw [if_neg a, if_neg a]
    by_cases a2 : m 8356 + 1 = 154
    · rw [if_pos a2]
      exact next_154 b m _ rfl b2.1 _ rfl BF.1 BF.2 _ rfl b3.1 b3.2 BL _ rfl (by simpa using a) (by simpa using a2) w h
    · rw [if_neg a2]
      exact next_x b m _ rfl b2.1 _ rfl BF.1 BF.2 _ rfl b3.1 b3.2 BL _ rfl (by simpa using a) (by simpa using a2) w h
set_option maxHeartbeats 8000000 in
theorem ren_1 (b : Nat) (m : M) (c : Int) (hc : m 8352 = c) (c0 : 0 ≤ c) (c1 : c < 256) (sy : Int) (hsy : m 8354 = sy) (sy0 : 0 ≤ sy) (sy1 : sy < 256) (sx : Int) (hsx : m 8355 = sx) (sx0 : 0 ≤ sx) (sx1 : sx < 256) (bk : Int) (hbk : m 8358 = bk) (bk0 : 0 ≤ bk) (bk1 : bk < 256) (fi : Int) (hfi : m 8359 = fi) (fi0 : 0 ≤ fi) (fi1 : fi < 256) (se : Int) (hse : m 8360 = se) (se0 : 0 ≤ se) (se1 : se < 256) (wy : Int) (hwy : m 8361 = wy) (wy0 : 0 ≤ wy) (wy1 : wy < 256) (wx : Int) (hwx : m 8362 = wx) (wx0 : 0 ≤ wx) (wx1 : wx < 256) (ow : Int) (how : m 8364 = ow) (ow0 : 0 ≤ ow) (ow1 : ow < 256)  (B : ∀ o, o < 31407 → o ≠ 8365 → 0 ≤ m o ∧ m o < 256) (n : Nat) (hL : m 8356 = n) (n1 : n < 144) (hs : seenV c wx wy n = true) (U : M) (hU : lineE (vid m) c sx sy wx wy n ow = U) (R : M) (hR : firstN (outV c bk fi se (vid m) (oam m) n U) 160 = R) (okU : okB U) (ow2 : ow < 255) (w : World) (h : Has w b (encU m)) : Calls Try.prog 44 #[.pointer (some ⟨b, 0, none⟩)] w fun q_ w' => q_ = .returned (.tuple #[]) ∧ Has w' b (encU (upd (row m (8367 + n * 160) 160 R) 8364 (ow + 1))) ∧ Keeps b w w' := by
  suffices hall : ∀ w0 : World, Keeps b w0 w → Calls Try.prog 44 #[.pointer (some ⟨b, 0, none⟩)] w fun q_ w' => q_ = .returned (.tuple #[]) ∧ Has w' b (encU (upd (row m (8367 + n * 160) 160 R) 8364 (ow + 1))) ∧ Keeps b w0 w' from hall w (Keeps.refl b w)
  intro w0 hK
  have P0 := Lib.hid h
  have K0 := Lib.hid hK
  clear h hK
  have Hc := Lib.hid hc
  clear hc
  have Hsy := Lib.hid hsy
  clear hsy
  have Hsx := Lib.hid hsx
  clear hsx
  have Hbk := Lib.hid hbk
  clear hbk
  have Hfi := Lib.hid hfi
  clear hfi
  have Hse := Lib.hid hse
  clear hse
  have Hwy := Lib.hid hwy
  clear hwy
  have Hwx := Lib.hid hwx
  clear hwx
  have How := Lib.hid how
  clear how
  have HB := Lib.hid B
  have HL := Lib.hid hL
  have HS := Lib.hid hs
  have HU := Lib.hid hU
  have HR := Lib.hid hR
  have OU := Lib.hid okU
  clear B hL hs hU hR okU
  have n2 : (n : Int) < 144 := by omega
  have w64 : IntKind.i64.wrap ow = ow := by rw [IntKind.wrap_i64]; omega
  have HLN := Lib.hid (show ∀ W, Mem W (.slice (some ⟨b, 0, none⟩) 8192 8192) (vid m) → Calls Try.prog 57 #[.agg #[.int .u8 c, .int .u8 sx, .int .u8 sy, .int .u8 wx, .int .u8 wy], .slice (some ⟨b, 0, none⟩) 8192 8192, .int .i64 (n : Int), .int .i64 ow] W fun q_ w' => q_ = .returned (.tuple #[.agg (enc U), .bool true]) ∧ Below W.heap.size W w' from fun W hM => by
    have q := line_c c sx sy wx wy c0 c1 sx0 sx1 sy0 sy1 wx0 wx1 wy0 wy1 _ _ (n : Int) ow (by omega) (by omega) (by omega) (by omega) W hM
    rw [HU.out, HS.out] at q
    exact q)
  have HLK := Lib.hid (show ∀ W, Mem W (.slice (some ⟨b, 0, none⟩) 8192 8192) (vid m) → Mem W (.slice (some ⟨b, 8192, none⟩) 160 160) (oam m) → Calls Try.prog 58 #[.agg #[.int .u8 c, .int .u8 bk, .int .u8 fi, .int .u8 se], .slice (some ⟨b, 0, none⟩) 8192 8192, .slice (some ⟨b, 8192, none⟩) 160 160, .int .i64 (n : Int), .agg (enc U)] W fun q_ w' => q_ = .returned (.agg (enc R)) ∧ Below W.heap.size W w' from fun W hM hM2 => by
    have q := linep_c c bk fi se c0 c1 bk0 bk1 fi0 fi1 se0 se1 _ _ _ _ U OU.out (n : Int) (by omega) (by omega) W hM hM2
    rw [HR.out] at q
    exact q)
  go_enter Try.func44, Try.ntmps44
  go_upto_region 1 with (fail)
  have P1 := Lib.hid P0.out.drew
  have K1 := Lib.hid (K0.out.drew)
  clear P0 K0
  have e_c : (encU (m))[8352]? = some (.int .u8 c) := (encU_u _ 8352 (by decide) (by decide) (by decide)).trans (congrArg (fun x => some (Value.int .u8 x)) (Hc.out))
  have e_sy : (encU (m))[8354]? = some (.int .u8 sy) := (encU_u _ 8354 (by decide) (by decide) (by decide)).trans (congrArg (fun x => some (Value.int .u8 x)) (Hsy.out))
  have e_sx : (encU (m))[8355]? = some (.int .u8 sx) := (encU_u _ 8355 (by decide) (by decide) (by decide)).trans (congrArg (fun x => some (Value.int .u8 x)) (Hsx.out))
  have e_wy : (encU (m))[8361]? = some (.int .u8 wy) := (encU_u _ 8361 (by decide) (by decide) (by decide)).trans (congrArg (fun x => some (Value.int .u8 x)) (Hwy.out))
  have e_wx : (encU (m))[8362]? = some (.int .u8 wx) := (encU_u _ 8362 (by decide) (by decide) (by decide)).trans (congrArg (fun x => some (Value.int .u8 x)) (Hwx.out))
  refine wp_region_held_drew (S := (fun w' => (∀ o, w'.cell? ⟨b, o, none⟩ = (encU m)[o]?))) (by kernel_rfl) P1.out.2.1 (fun hHeld => ?_)
  generalize World.drew _ = u1 at hHeld P1 K1 ⊢
  refine wpAnyH_take (i := 0) (oi := { dst := some 11, op := Go.Op.move (Go.Operand.tmp 2), type := 79, pos := "ppu.go:123", after := #[], guard := none }) (v := ?v31) rfl (by kernel_rfl) (by kernel_rfl) (by kernel_rfl) (fun _ _ _ h => h) (Or.inl ⟨by rfl, ?y31⟩) (by assumption) ?z31
  case y31 => (intro w hSw; (try dsimp only at hSw); go_simp) <;> with_reducible rfl
  try simp only [Act.put, List.setIfInBounds_toArray, List.set_cons_zero, List.set_cons_succ]
  refine wpAnyH_take (i := 1) (oi := { dst := some 12, op := Go.Op.nilCheck (Go.Operand.tmp 11), type := 0, pos := "ppu.go:123", after := #[{ on := 0, ground := Go.Ground.data }], guard := none }) (v := ?v32) rfl (by kernel_rfl) (by kernel_rfl) (by kernel_rfl) (fun _ _ _ h => h) (Or.inl ⟨by rfl, ?y32⟩) (by assumption) ?z32
  case y32 => (intro w hSw; (try dsimp only at hSw); go_simp) <;> with_reducible rfl
  try simp only [Act.put, List.setIfInBounds_toArray, List.set_cons_zero, List.set_cons_succ]
  refine wpAnyH_take (i := 2) (oi := { dst := some 13, op := Go.Op.indexAddr 59 (Go.Operand.tmp 12) (Go.Operand.const (Go.Value.int Go.IntKind.i64 0)), type := 0, pos := "ppu.go:123", after := #[{ on := 1, ground := Go.Ground.data }], guard := none }) (v := ?v33) rfl (by kernel_rfl) (by kernel_rfl) (by kernel_rfl) (fun _ _ _ h => h) (Or.inl ⟨by rfl, ?y33⟩) (by assumption) ?z33
  case y33 => (intro w hSw; (try dsimp only at hSw); go_simp) <;> with_reducible rfl
  try simp only [Act.put, List.setIfInBounds_toArray, List.set_cons_zero, List.set_cons_succ]
  refine wpAnyH_take (i := 3) (oi := { dst := some 14, op := Go.Op.load 5 (Go.Operand.tmp 13), type := 5, pos := "ppu.go:123", after := #[{ on := 2, ground := Go.Ground.data }], guard := none }) (v := ?v34) rfl (by kernel_rfl) (by kernel_rfl) (by kernel_rfl) (fun _ _ _ h => h) (Or.inl ⟨by rfl, ?y34⟩) (by assumption) ?z34
  case y34 => (intro w hSw; (try dsimp only at hSw); go_simp) <;> with_reducible rfl
  try simp only [Act.put, List.setIfInBounds_toArray, List.set_cons_zero, List.set_cons_succ]
  refine wpAnyH_take (i := 4) (oi := { dst := some 15, op := Go.Op.move (Go.Operand.tmp 2), type := 79, pos := "ppu.go:123", after := #[], guard := none }) (v := ?v35) rfl (by kernel_rfl) (by kernel_rfl) (by kernel_rfl) (fun _ _ _ h => h) (Or.inl ⟨by rfl, ?y35⟩) (by assumption) ?z35
  case y35 => (intro w hSw; (try dsimp only at hSw); go_simp) <;> with_reducible rfl
  try simp only [Act.put, List.setIfInBounds_toArray, List.set_cons_zero, List.set_cons_succ]
  refine wpAnyH_take (i := 5) (oi := { dst := some 16, op := Go.Op.nilCheck (Go.Operand.tmp 15), type := 0, pos := "ppu.go:123", after := #[{ on := 4, ground := Go.Ground.data }], guard := none }) (v := ?v36) rfl (by kernel_rfl) (by kernel_rfl) (by kernel_rfl) (fun _ _ _ h => h) (Or.inl ⟨by rfl, ?y36⟩) (by assumption) ?z36
  case y36 => (intro w hSw; (try dsimp only at hSw); go_simp) <;> with_reducible rfl
  try simp only [Act.put, List.setIfInBounds_toArray, List.set_cons_zero, List.set_cons_succ]
  refine wpAnyH_take (i := 6) (oi := { dst := some 17, op := Go.Op.indexAddr 59 (Go.Operand.tmp 16) (Go.Operand.const (Go.Value.int Go.IntKind.i64 3)), type := 0, pos := "ppu.go:123", after := #[{ on := 5, ground := Go.Ground.data }], guard := none }) (v := ?v37) rfl (by kernel_rfl) (by kernel_rfl) (by kernel_rfl) (fun _ _ _ h => h) (Or.inl ⟨by rfl, ?y37⟩) (by assumption) ?z37
  case y37 => (intro w hSw; (try dsimp only at hSw); go_simp) <;> with_reducible rfl
  try simp only [Act.put, List.setIfInBounds_toArray, List.set_cons_zero, List.set_cons_succ]
  refine wpAnyH_take (i := 7) (oi := { dst := some 18, op := Go.Op.load 5 (Go.Operand.tmp 17), type := 5, pos := "ppu.go:123", after := #[{ on := 6, ground := Go.Ground.data }], guard := none }) (v := ?v38) rfl (by kernel_rfl) (by kernel_rfl) (by kernel_rfl) (fun _ _ _ h => h) (Or.inl ⟨by rfl, ?y38⟩) (by assumption) ?z38
  case y38 => (intro w hSw; (try dsimp only at hSw); go_simp) <;> with_reducible rfl
  try simp only [Act.put, List.setIfInBounds_toArray, List.set_cons_zero, List.set_cons_succ]
  refine wpAnyH_take (i := 8) (oi := { dst := some 19, op := Go.Op.move (Go.Operand.tmp 2), type := 79, pos := "ppu.go:123", after := #[], guard := none }) (v := ?v39) rfl (by kernel_rfl) (by kernel_rfl) (by kernel_rfl) (fun _ _ _ h => h) (Or.inl ⟨by rfl, ?y39⟩) (by assumption) ?z39
  case y39 => (intro w hSw; (try dsimp only at hSw); go_simp) <;> with_reducible rfl
  try simp only [Act.put, List.setIfInBounds_toArray, List.set_cons_zero, List.set_cons_succ]
  refine wpAnyH_take (i := 9) (oi := { dst := some 20, op := Go.Op.nilCheck (Go.Operand.tmp 19), type := 0, pos := "ppu.go:123", after := #[{ on := 8, ground := Go.Ground.data }], guard := none }) (v := ?v40) rfl (by kernel_rfl) (by kernel_rfl) (by kernel_rfl) (fun _ _ _ h => h) (Or.inl ⟨by rfl, ?y40⟩) (by assumption) ?z40
  case y40 => (intro w hSw; (try dsimp only at hSw); go_simp) <;> with_reducible rfl
  try simp only [Act.put, List.setIfInBounds_toArray, List.set_cons_zero, List.set_cons_succ]
  refine wpAnyH_take (i := 10) (oi := { dst := some 21, op := Go.Op.indexAddr 59 (Go.Operand.tmp 20) (Go.Operand.const (Go.Value.int Go.IntKind.i64 2)), type := 0, pos := "ppu.go:123", after := #[{ on := 9, ground := Go.Ground.data }], guard := none }) (v := ?v41) rfl (by kernel_rfl) (by kernel_rfl) (by kernel_rfl) (fun _ _ _ h => h) (Or.inl ⟨by rfl, ?y41⟩) (by assumption) ?z41
  case y41 => (intro w hSw; (try dsimp only at hSw); go_simp) <;> with_reducible rfl
  try simp only [Act.put, List.setIfInBounds_toArray, List.set_cons_zero, List.set_cons_succ]
  refine wpAnyH_take (i := 11) (oi := { dst := some 22, op := Go.Op.load 5 (Go.Operand.tmp 21), type := 5, pos := "ppu.go:123", after := #[{ on := 10, ground := Go.Ground.data }], guard := none }) (v := ?v42) rfl (by kernel_rfl) (by kernel_rfl) (by kernel_rfl) (fun _ _ _ h => h) (Or.inl ⟨by rfl, ?y42⟩) (by assumption) ?z42
  case y42 => (intro w hSw; (try dsimp only at hSw); go_simp) <;> with_reducible rfl
  try simp only [Act.put, List.setIfInBounds_toArray, List.set_cons_zero, List.set_cons_succ]
  refine wpAnyH_take (i := 12) (oi := { dst := some 23, op := Go.Op.move (Go.Operand.tmp 2), type := 79, pos := "ppu.go:123", after := #[], guard := none }) (v := ?v43) rfl (by kernel_rfl) (by kernel_rfl) (by kernel_rfl) (fun _ _ _ h => h) (Or.inl ⟨by rfl, ?y43⟩) (by assumption) ?z43
  case y43 => (intro w hSw; (try dsimp only at hSw); go_simp) <;> with_reducible rfl
  try simp only [Act.put, List.setIfInBounds_toArray, List.set_cons_zero, List.set_cons_succ]
  refine wpAnyH_take (i := 13) (oi := { dst := some 24, op := Go.Op.nilCheck (Go.Operand.tmp 23), type := 0, pos := "ppu.go:123", after := #[{ on := 12, ground := Go.Ground.data }], guard := none }) (v := ?v44) rfl (by kernel_rfl) (by kernel_rfl) (by kernel_rfl) (fun _ _ _ h => h) (Or.inl ⟨by rfl, ?y44⟩) (by assumption) ?z44
  case y44 => (intro w hSw; (try dsimp only at hSw); go_simp) <;> with_reducible rfl
  try simp only [Act.put, List.setIfInBounds_toArray, List.set_cons_zero, List.set_cons_succ]
  refine wpAnyH_take (i := 14) (oi := { dst := some 25, op := Go.Op.indexAddr 59 (Go.Operand.tmp 24) (Go.Operand.const (Go.Value.int Go.IntKind.i64 10)), type := 0, pos := "ppu.go:123", after := #[{ on := 13, ground := Go.Ground.data }], guard := none }) (v := ?v45) rfl (by kernel_rfl) (by kernel_rfl) (by kernel_rfl) (fun _ _ _ h => h) (Or.inl ⟨by rfl, ?y45⟩) (by assumption) ?z45
  case y45 => (intro w hSw; (try dsimp only at hSw); go_simp) <;> with_reducible rfl
  try simp only [Act.put, List.setIfInBounds_toArray, List.set_cons_zero, List.set_cons_succ]
  refine wpAnyH_take (i := 15) (oi := { dst := some 26, op := Go.Op.load 5 (Go.Operand.tmp 25), type := 5, pos := "ppu.go:123", after := #[{ on := 14, ground := Go.Ground.data }], guard := none }) (v := ?v46) rfl (by kernel_rfl) (by kernel_rfl) (by kernel_rfl) (fun _ _ _ h => h) (Or.inl ⟨by rfl, ?y46⟩) (by assumption) ?z46
  case y46 => (intro w hSw; (try dsimp only at hSw); go_simp) <;> with_reducible rfl
  try simp only [Act.put, List.setIfInBounds_toArray, List.set_cons_zero, List.set_cons_succ]
  refine wpAnyH_take (i := 16) (oi := { dst := some 27, op := Go.Op.move (Go.Operand.tmp 2), type := 79, pos := "ppu.go:123", after := #[], guard := none }) (v := ?v47) rfl (by kernel_rfl) (by kernel_rfl) (by kernel_rfl) (fun _ _ _ h => h) (Or.inl ⟨by rfl, ?y47⟩) (by assumption) ?z47
  case y47 => (intro w hSw; (try dsimp only at hSw); go_simp) <;> with_reducible rfl
  try simp only [Act.put, List.setIfInBounds_toArray, List.set_cons_zero, List.set_cons_succ]
  refine wpAnyH_take (i := 17) (oi := { dst := some 28, op := Go.Op.nilCheck (Go.Operand.tmp 27), type := 0, pos := "ppu.go:123", after := #[{ on := 16, ground := Go.Ground.data }], guard := none }) (v := ?v48) rfl (by kernel_rfl) (by kernel_rfl) (by kernel_rfl) (fun _ _ _ h => h) (Or.inl ⟨by rfl, ?y48⟩) (by assumption) ?z48
  case y48 => (intro w hSw; (try dsimp only at hSw); go_simp) <;> with_reducible rfl
  try simp only [Act.put, List.setIfInBounds_toArray, List.set_cons_zero, List.set_cons_succ]
  refine wpAnyH_take (i := 18) (oi := { dst := some 29, op := Go.Op.indexAddr 59 (Go.Operand.tmp 28) (Go.Operand.const (Go.Value.int Go.IntKind.i64 9)), type := 0, pos := "ppu.go:123", after := #[{ on := 17, ground := Go.Ground.data }], guard := none }) (v := ?v49) rfl (by kernel_rfl) (by kernel_rfl) (by kernel_rfl) (fun _ _ _ h => h) (Or.inl ⟨by rfl, ?y49⟩) (by assumption) ?z49
  case y49 => (intro w hSw; (try dsimp only at hSw); go_simp) <;> with_reducible rfl
  try simp only [Act.put, List.setIfInBounds_toArray, List.set_cons_zero, List.set_cons_succ]
  refine wpAnyH_take (i := 19) (oi := { dst := some 30, op := Go.Op.load 5 (Go.Operand.tmp 29), type := 5, pos := "ppu.go:123", after := #[{ on := 18, ground := Go.Ground.data }], guard := none }) (v := ?v50) rfl (by kernel_rfl) (by kernel_rfl) (by kernel_rfl) (fun _ _ _ h => h) (Or.inl ⟨by rfl, ?y50⟩) (by assumption) ?z50
  case y50 => (intro w hSw; (try dsimp only at hSw); go_simp) <;> with_reducible rfl
  try simp only [Act.put, List.setIfInBounds_toArray, List.set_cons_zero, List.set_cons_succ]
  refine wpAnyH_take (i := 20) (oi := { dst := some 31, op := Go.Op.build 80 #[(0, Go.Operand.tmp 14), (1, Go.Operand.tmp 18), (2, Go.Operand.tmp 22), (3, Go.Operand.tmp 26), (4, Go.Operand.tmp 30)], type := 80, pos := "ppu.go:123", after := #[{ on := 3, ground := Go.Ground.data }, { on := 7, ground := Go.Ground.data }, { on := 11, ground := Go.Ground.data }, { on := 15, ground := Go.Ground.data }, { on := 19, ground := Go.Ground.data }], guard := none }) (v := ?v51) rfl (by kernel_rfl) (by kernel_rfl) (by kernel_rfl) (fun _ _ _ h => h) (Or.inl ⟨by rfl, ?y51⟩) (by assumption) ?z51
  case y51 => (intro w hSw; (try dsimp only at hSw); go_simp) <;> with_reducible rfl
  try simp only [Act.put, List.setIfInBounds_toArray, List.set_cons_zero, List.set_cons_succ]
  refine wpAnyH_ready (rs := [21]) (by kernel_rfl) (by simp) ?_
  refine (AllReadyH.cons (o := { dst := some 3, op := Go.Op.alloc 80, type := 0, pos := "ppu.go:123", after := #[], guard := none }) rfl (fun K hK => ?_) AllReadyH.nil)
  · skip
    go_simp
    have Q_ := own1 u1 (.cells #[.int .u8 0, .int .u8 0, .int .u8 0, .int .u8 0, .int .u8 0] 80)
    have P2 := Lib.hid (P1.out.below Q_)
    have K2 := Lib.hid (K1.out.trans (Keeps.of_below Q_))
    have X2 := Lib.hid (Has.new u1 #[.int .u8 0, .int .u8 0, .int .u8 0, .int .u8 0, .int .u8 0] 80)
    have LX := Lib.hid (K1.out.size)
    have NX := Lib.hid (Nat.ne_of_lt P1.out.1)
    clear Q_
    clear P1 K1
    generalize u1.alloc (.cells #[.int .u8 0, .int .u8 0, .int .u8 0, .int .u8 0, .int .u8 0] 80) = u2 at P2 K2 X2 ⊢
    generalize u1.heap.size = xb at X2 LX NX  ⊢
    refine hK.out _ _ ?s52 (fun hNew => ?r52)
    case s52 => exact P2.out.2.1
    clear hK K hHeld
    have hHeld := hNew
    clear hNew
    refine wpAnyH_ready (rs := [22]) (by kernel_rfl) (by simp) ?_
    refine (AllReadyH.cons (o := { dst := none, op := Go.Op.store 80 (Go.Operand.tmp 3) (Go.Operand.tmp 31), type := 0, pos := "ppu.go:123", after := #[{ on := 21, ground := Go.Ground.data }, { on := 20, ground := Go.Ground.data }, { on := 0, ground := Go.Ground.phase }, { on := 1, ground := Go.Ground.phase }, { on := 2, ground := Go.Ground.phase }, { on := 3, ground := Go.Ground.phase }, { on := 4, ground := Go.Ground.phase }, { on := 5, ground := Go.Ground.phase }, { on := 6, ground := Go.Ground.phase }, { on := 7, ground := Go.Ground.phase }, { on := 8, ground := Go.Ground.phase }, { on := 9, ground := Go.Ground.phase }, { on := 10, ground := Go.Ground.phase }, { on := 11, ground := Go.Ground.phase }, { on := 12, ground := Go.Ground.phase }, { on := 13, ground := Go.Ground.phase }, { on := 14, ground := Go.Ground.phase }, { on := 15, ground := Go.Ground.phase }, { on := 16, ground := Go.Ground.phase }, { on := 17, ground := Go.Ground.phase }, { on := 18, ground := Go.Ground.phase }, { on := 19, ground := Go.Ground.phase }, { on := 20, ground := Go.Ground.phase }, { on := 21, ground := Go.Ground.phase }], guard := none }) rfl (fun K hK => ?_) AllReadyH.nil)
    · skip
      refine wp_store_g r80 X2.out rfl #[.int .u8 c, .int .u8 sx, .int .u8 sy, .int .u8 wx, .int .u8 wy] rfl (five_one _ _ _ _ _) _ _ rfl rfl rfl ?_
      intro u3 hP hk
      try simp only [Act.put, List.setIfInBounds_toArray, List.set_cons_zero, List.set_cons_succ]
      have X3 := Lib.hid hP
      have K3 := Lib.hid (keeps_new K2.out LX.out hk)
      have P3 := Lib.hid (hk.has NX.out P2.out)
      clear hP hk
      clear P2 K2 X2
      refine hK.out _ _ ?s53 (fun hNew => ?r53)
      case s53 => exact P3.out.2.1
      clear hK K hHeld
      have hHeld := hNew
      clear hNew
      refine wpAnyH_done (by kernel_rfl) ?_ _
      clear hHeld
      clear e_c e_sx e_sy e_wx e_wy
      go_upto_region 2 with (fail)
      have P4 := Lib.hid P3.out.drew
      have X4 := Lib.hid X3.out.drew
      have K4 := Lib.hid (K3.out.drew)
      clear P3 K3 X3
      have e_c : (encU (m))[8352]? = some (.int .u8 c) := (encU_u _ 8352 (by decide) (by decide) (by decide)).trans (congrArg (fun x => some (Value.int .u8 x)) (Hc.out))
      have e_bk : (encU (m))[8358]? = some (.int .u8 bk) := (encU_u _ 8358 (by decide) (by decide) (by decide)).trans (congrArg (fun x => some (Value.int .u8 x)) (Hbk.out))
      have e_fi : (encU (m))[8359]? = some (.int .u8 fi) := (encU_u _ 8359 (by decide) (by decide) (by decide)).trans (congrArg (fun x => some (Value.int .u8 x)) (Hfi.out))
      have e_se : (encU (m))[8360]? = some (.int .u8 se) := (encU_u _ 8360 (by decide) (by decide) (by decide)).trans (congrArg (fun x => some (Value.int .u8 x)) (Hse.out))
      refine wp_region_held_drew (S := (fun w' => (∀ o, w'.cell? ⟨b, o, none⟩ = (encU m)[o]?))) (by kernel_rfl) P4.out.2.1 (fun hHeld => ?_)
      generalize World.drew _ = u4 at hHeld P4 K4 X4 ⊢
      refine wpAnyH_take (i := 0) (oi := { dst := some 32, op := Go.Op.move (Go.Operand.tmp 2), type := 79, pos := "ppu.go:128", after := #[], guard := none }) (v := ?v54) rfl (by kernel_rfl) (by kernel_rfl) (by kernel_rfl) (fun _ _ _ h => h) (Or.inl ⟨by rfl, ?y54⟩) (by assumption) ?z54
      case y54 => (intro w hSw; (try dsimp only at hSw); go_simp) <;> with_reducible rfl
      try simp only [Act.put, List.setIfInBounds_toArray, List.set_cons_zero, List.set_cons_succ]
      refine wpAnyH_take (i := 1) (oi := { dst := some 33, op := Go.Op.nilCheck (Go.Operand.tmp 32), type := 0, pos := "ppu.go:128", after := #[{ on := 0, ground := Go.Ground.data }], guard := none }) (v := ?v55) rfl (by kernel_rfl) (by kernel_rfl) (by kernel_rfl) (fun _ _ _ h => h) (Or.inl ⟨by rfl, ?y55⟩) (by assumption) ?z55
      case y55 => (intro w hSw; (try dsimp only at hSw); go_simp) <;> with_reducible rfl
      try simp only [Act.put, List.setIfInBounds_toArray, List.set_cons_zero, List.set_cons_succ]
      refine wpAnyH_take (i := 2) (oi := { dst := some 34, op := Go.Op.indexAddr 59 (Go.Operand.tmp 33) (Go.Operand.const (Go.Value.int Go.IntKind.i64 0)), type := 0, pos := "ppu.go:128", after := #[{ on := 1, ground := Go.Ground.data }], guard := none }) (v := ?v56) rfl (by kernel_rfl) (by kernel_rfl) (by kernel_rfl) (fun _ _ _ h => h) (Or.inl ⟨by rfl, ?y56⟩) (by assumption) ?z56
      case y56 => (intro w hSw; (try dsimp only at hSw); go_simp) <;> with_reducible rfl
      try simp only [Act.put, List.setIfInBounds_toArray, List.set_cons_zero, List.set_cons_succ]
      refine wpAnyH_take (i := 3) (oi := { dst := some 35, op := Go.Op.load 5 (Go.Operand.tmp 34), type := 5, pos := "ppu.go:128", after := #[{ on := 2, ground := Go.Ground.data }], guard := none }) (v := ?v57) rfl (by kernel_rfl) (by kernel_rfl) (by kernel_rfl) (fun _ _ _ h => h) (Or.inl ⟨by rfl, ?y57⟩) (by assumption) ?z57
      case y57 => (intro w hSw; (try dsimp only at hSw); go_simp) <;> with_reducible rfl
      try simp only [Act.put, List.setIfInBounds_toArray, List.set_cons_zero, List.set_cons_succ]
      refine wpAnyH_take (i := 4) (oi := { dst := some 36, op := Go.Op.move (Go.Operand.tmp 2), type := 79, pos := "ppu.go:128", after := #[], guard := none }) (v := ?v58) rfl (by kernel_rfl) (by kernel_rfl) (by kernel_rfl) (fun _ _ _ h => h) (Or.inl ⟨by rfl, ?y58⟩) (by assumption) ?z58
      case y58 => (intro w hSw; (try dsimp only at hSw); go_simp) <;> with_reducible rfl
      try simp only [Act.put, List.setIfInBounds_toArray, List.set_cons_zero, List.set_cons_succ]
      refine wpAnyH_take (i := 5) (oi := { dst := some 37, op := Go.Op.nilCheck (Go.Operand.tmp 36), type := 0, pos := "ppu.go:128", after := #[{ on := 4, ground := Go.Ground.data }], guard := none }) (v := ?v59) rfl (by kernel_rfl) (by kernel_rfl) (by kernel_rfl) (fun _ _ _ h => h) (Or.inl ⟨by rfl, ?y59⟩) (by assumption) ?z59
      case y59 => (intro w hSw; (try dsimp only at hSw); go_simp) <;> with_reducible rfl
      try simp only [Act.put, List.setIfInBounds_toArray, List.set_cons_zero, List.set_cons_succ]
      refine wpAnyH_take (i := 6) (oi := { dst := some 38, op := Go.Op.indexAddr 59 (Go.Operand.tmp 37) (Go.Operand.const (Go.Value.int Go.IntKind.i64 6)), type := 0, pos := "ppu.go:128", after := #[{ on := 5, ground := Go.Ground.data }], guard := none }) (v := ?v60) rfl (by kernel_rfl) (by kernel_rfl) (by kernel_rfl) (fun _ _ _ h => h) (Or.inl ⟨by rfl, ?y60⟩) (by assumption) ?z60
      case y60 => (intro w hSw; (try dsimp only at hSw); go_simp) <;> with_reducible rfl
      try simp only [Act.put, List.setIfInBounds_toArray, List.set_cons_zero, List.set_cons_succ]
      refine wpAnyH_take (i := 7) (oi := { dst := some 39, op := Go.Op.load 5 (Go.Operand.tmp 38), type := 5, pos := "ppu.go:128", after := #[{ on := 6, ground := Go.Ground.data }], guard := none }) (v := ?v61) rfl (by kernel_rfl) (by kernel_rfl) (by kernel_rfl) (fun _ _ _ h => h) (Or.inl ⟨by rfl, ?y61⟩) (by assumption) ?z61
      case y61 => (intro w hSw; (try dsimp only at hSw); go_simp) <;> with_reducible rfl
      try simp only [Act.put, List.setIfInBounds_toArray, List.set_cons_zero, List.set_cons_succ]
      refine wpAnyH_take (i := 8) (oi := { dst := some 40, op := Go.Op.move (Go.Operand.tmp 2), type := 79, pos := "ppu.go:128", after := #[], guard := none }) (v := ?v62) rfl (by kernel_rfl) (by kernel_rfl) (by kernel_rfl) (fun _ _ _ h => h) (Or.inl ⟨by rfl, ?y62⟩) (by assumption) ?z62
      case y62 => (intro w hSw; (try dsimp only at hSw); go_simp) <;> with_reducible rfl
      try simp only [Act.put, List.setIfInBounds_toArray, List.set_cons_zero, List.set_cons_succ]
      refine wpAnyH_take (i := 9) (oi := { dst := some 41, op := Go.Op.nilCheck (Go.Operand.tmp 40), type := 0, pos := "ppu.go:128", after := #[{ on := 8, ground := Go.Ground.data }], guard := none }) (v := ?v63) rfl (by kernel_rfl) (by kernel_rfl) (by kernel_rfl) (fun _ _ _ h => h) (Or.inl ⟨by rfl, ?y63⟩) (by assumption) ?z63
      case y63 => (intro w hSw; (try dsimp only at hSw); go_simp) <;> with_reducible rfl
      try simp only [Act.put, List.setIfInBounds_toArray, List.set_cons_zero, List.set_cons_succ]
      refine wpAnyH_take (i := 10) (oi := { dst := some 42, op := Go.Op.indexAddr 59 (Go.Operand.tmp 41) (Go.Operand.const (Go.Value.int Go.IntKind.i64 7)), type := 0, pos := "ppu.go:128", after := #[{ on := 9, ground := Go.Ground.data }], guard := none }) (v := ?v64) rfl (by kernel_rfl) (by kernel_rfl) (by kernel_rfl) (fun _ _ _ h => h) (Or.inl ⟨by rfl, ?y64⟩) (by assumption) ?z64
      case y64 => (intro w hSw; (try dsimp only at hSw); go_simp) <;> with_reducible rfl
      try simp only [Act.put, List.setIfInBounds_toArray, List.set_cons_zero, List.set_cons_succ]
      refine wpAnyH_take (i := 11) (oi := { dst := some 43, op := Go.Op.load 5 (Go.Operand.tmp 42), type := 5, pos := "ppu.go:128", after := #[{ on := 10, ground := Go.Ground.data }], guard := none }) (v := ?v65) rfl (by kernel_rfl) (by kernel_rfl) (by kernel_rfl) (fun _ _ _ h => h) (Or.inl ⟨by rfl, ?y65⟩) (by assumption) ?z65
      case y65 => (intro w hSw; (try dsimp only at hSw); go_simp) <;> with_reducible rfl
      try simp only [Act.put, List.setIfInBounds_toArray, List.set_cons_zero, List.set_cons_succ]
      refine wpAnyH_take (i := 12) (oi := { dst := some 44, op := Go.Op.move (Go.Operand.tmp 2), type := 79, pos := "ppu.go:128", after := #[], guard := none }) (v := ?v66) rfl (by kernel_rfl) (by kernel_rfl) (by kernel_rfl) (fun _ _ _ h => h) (Or.inl ⟨by rfl, ?y66⟩) (by assumption) ?z66
      case y66 => (intro w hSw; (try dsimp only at hSw); go_simp) <;> with_reducible rfl
      try simp only [Act.put, List.setIfInBounds_toArray, List.set_cons_zero, List.set_cons_succ]
      refine wpAnyH_take (i := 13) (oi := { dst := some 45, op := Go.Op.nilCheck (Go.Operand.tmp 44), type := 0, pos := "ppu.go:128", after := #[{ on := 12, ground := Go.Ground.data }], guard := none }) (v := ?v67) rfl (by kernel_rfl) (by kernel_rfl) (by kernel_rfl) (fun _ _ _ h => h) (Or.inl ⟨by rfl, ?y67⟩) (by assumption) ?z67
      case y67 => (intro w hSw; (try dsimp only at hSw); go_simp) <;> with_reducible rfl
      try simp only [Act.put, List.setIfInBounds_toArray, List.set_cons_zero, List.set_cons_succ]
      refine wpAnyH_take (i := 14) (oi := { dst := some 46, op := Go.Op.indexAddr 59 (Go.Operand.tmp 45) (Go.Operand.const (Go.Value.int Go.IntKind.i64 8)), type := 0, pos := "ppu.go:128", after := #[{ on := 13, ground := Go.Ground.data }], guard := none }) (v := ?v68) rfl (by kernel_rfl) (by kernel_rfl) (by kernel_rfl) (fun _ _ _ h => h) (Or.inl ⟨by rfl, ?y68⟩) (by assumption) ?z68
      case y68 => (intro w hSw; (try dsimp only at hSw); go_simp) <;> with_reducible rfl
      try simp only [Act.put, List.setIfInBounds_toArray, List.set_cons_zero, List.set_cons_succ]
      refine wpAnyH_take (i := 15) (oi := { dst := some 47, op := Go.Op.load 5 (Go.Operand.tmp 46), type := 5, pos := "ppu.go:128", after := #[{ on := 14, ground := Go.Ground.data }], guard := none }) (v := ?v69) rfl (by kernel_rfl) (by kernel_rfl) (by kernel_rfl) (fun _ _ _ h => h) (Or.inl ⟨by rfl, ?y69⟩) (by assumption) ?z69
      case y69 => (intro w hSw; (try dsimp only at hSw); go_simp) <;> with_reducible rfl
      try simp only [Act.put, List.setIfInBounds_toArray, List.set_cons_zero, List.set_cons_succ]
      refine wpAnyH_take (i := 16) (oi := { dst := some 48, op := Go.Op.build 81 #[(0, Go.Operand.tmp 35), (1, Go.Operand.tmp 39), (2, Go.Operand.tmp 43), (3, Go.Operand.tmp 47)], type := 81, pos := "ppu.go:128", after := #[{ on := 3, ground := Go.Ground.data }, { on := 7, ground := Go.Ground.data }, { on := 11, ground := Go.Ground.data }, { on := 15, ground := Go.Ground.data }], guard := none }) (v := ?v70) rfl (by kernel_rfl) (by kernel_rfl) (by kernel_rfl) (fun _ _ _ h => h) (Or.inl ⟨by rfl, ?y70⟩) (by assumption) ?z70
      case y70 => (intro w hSw; (try dsimp only at hSw); go_simp) <;> with_reducible rfl
      try simp only [Act.put, List.setIfInBounds_toArray, List.set_cons_zero, List.set_cons_succ]
      refine wpAnyH_ready (rs := [17]) (by kernel_rfl) (by simp) ?_
      refine (AllReadyH.cons (o := { dst := some 4, op := Go.Op.alloc 81, type := 0, pos := "ppu.go:128", after := #[], guard := none }) rfl (fun K hK => ?_) AllReadyH.nil)
      · skip
        go_simp
        have Q_ := own1 u4 (.cells #[.int .u8 0, .int .u8 0, .int .u8 0, .int .u8 0] 81)
        have P5 := Lib.hid (P4.out.below Q_)
        have K5 := Lib.hid (K4.out.trans (Keeps.of_below Q_))
        have X5 := Lib.hid (X4.out.below Q_)
        have Y5 := Lib.hid (Has.new u4 #[.int .u8 0, .int .u8 0, .int .u8 0, .int .u8 0] 81)
        have LY := Lib.hid (K4.out.size)
        have NY := Lib.hid (Nat.ne_of_lt P4.out.1)
        have NXY := Lib.hid (Nat.ne_of_lt X4.out.1)
        clear Q_
        clear P4 K4 X4
        generalize u4.alloc (.cells #[.int .u8 0, .int .u8 0, .int .u8 0, .int .u8 0] 81) = u5 at P5 K5 X5 Y5 ⊢
        generalize u4.heap.size = yb at Y5 LY NY NXY ⊢
        refine hK.out _ _ ?s71 (fun hNew => ?r71)
        case s71 => exact P5.out.2.1
        clear hK K hHeld
        have hHeld := hNew
        clear hNew
        refine wpAnyH_ready (rs := [18]) (by kernel_rfl) (by simp) ?_
        refine (AllReadyH.cons (o := { dst := none, op := Go.Op.store 81 (Go.Operand.tmp 4) (Go.Operand.tmp 48), type := 0, pos := "ppu.go:128", after := #[{ on := 17, ground := Go.Ground.data }, { on := 16, ground := Go.Ground.data }, { on := 0, ground := Go.Ground.phase }, { on := 1, ground := Go.Ground.phase }, { on := 2, ground := Go.Ground.phase }, { on := 3, ground := Go.Ground.phase }, { on := 4, ground := Go.Ground.phase }, { on := 5, ground := Go.Ground.phase }, { on := 6, ground := Go.Ground.phase }, { on := 7, ground := Go.Ground.phase }, { on := 8, ground := Go.Ground.phase }, { on := 9, ground := Go.Ground.phase }, { on := 10, ground := Go.Ground.phase }, { on := 11, ground := Go.Ground.phase }, { on := 12, ground := Go.Ground.phase }, { on := 13, ground := Go.Ground.phase }, { on := 14, ground := Go.Ground.phase }, { on := 15, ground := Go.Ground.phase }, { on := 16, ground := Go.Ground.phase }, { on := 17, ground := Go.Ground.phase }], guard := none }) rfl (fun K hK => ?_) AllReadyH.nil)
        · skip
          refine wp_store_g r27 Y5.out rfl #[.int .u8 c, .int .u8 bk, .int .u8 fi, .int .u8 se] rfl (four_one _ _ _ _) _ _ rfl rfl rfl ?_
          intro u6 hP hk
          try simp only [Act.put, List.setIfInBounds_toArray, List.set_cons_zero, List.set_cons_succ]
          have Y6 := Lib.hid hP
          have K6 := Lib.hid (keeps_new K5.out LY.out hk)
          have P6 := Lib.hid (hk.has NY.out P5.out)
          have X6 := Lib.hid (hk.has NXY.out X5.out)
          clear hP hk
          clear P5 K5 X5 Y5
          refine hK.out _ _ ?s72 (fun hNew => ?r72)
          case s72 => exact P6.out.2.1
          clear hK K hHeld
          have hHeld := hNew
          clear hNew
          refine wpAnyH_done (by kernel_rfl) ?_ _
          clear hHeld
          clear e_c e_bk e_fi e_se
          go_wp2_with (fail)
          with_reducible refine (line_u b m (n : Int) HL.out (by omega) (by omega) _ P6.out).mono ?_
          rintro q_ w' ⟨rfl, rfl⟩
          go_upto_region 4 with (fail)
          have P7 := Lib.hid P6.out.drew
          have X7 := Lib.hid X6.out.drew
          have Y7 := Lib.hid Y6.out.drew
          have K7 := Lib.hid (K6.out.drew)
          clear P6 K6 X6 Y6
          have e_ow : (encU (m))[8364]? = some (.int .u8 ow) := (encU_u _ 8364 (by decide) (by decide) (by decide)).trans (congrArg (fun x => some (Value.int .u8 x)) (How.out))
          refine wp_region_held_drew (S := (fun w' => (∀ o, w'.cell? ⟨b, o, none⟩ = (encU m)[o]?) ∧ w'.rangeAt xb 0 (#[.int .u8 c, .int .u8 sx, .int .u8 sy, .int .u8 wx, .int .u8 wy] : Array Value).toList)) (by kernel_rfl) ⟨P7.out.2.1, range_of_has X7.out⟩ (fun hHeld => ?_)
          generalize World.drew _ = u7 at hHeld P7 K7 X7 Y7 ⊢
          refine wpAnyH_take (i := 0) (oi := { dst := some 52, op := Go.Op.load 80 (Go.Operand.tmp 3), type := 80, pos := "ppu.go:130", after := #[], guard := none }) (v := .agg #[.int .u8 c, .int .u8 sx, .int .u8 sy, .int .u8 wx, .int .u8 wy]) rfl (by kernel_rfl) (by kernel_rfl) (by kernel_rfl) (fun _ _ _ h => h) (yields_load r80 #[.int .u8 c, .int .u8 sx, .int .u8 sy, .int .u8 wx, .int .u8 wy] rfl xb (fun w hw => hw.2) (by rfl) _ rfl rfl) (by assumption) ?_
          try simp only [Act.put, List.setIfInBounds_toArray, List.set_cons_zero, List.set_cons_succ]
          refine wpAnyH_take (i := 1) (oi := { dst := some 53, op := Go.Op.move (Go.Operand.tmp 0), type := 25, pos := "ppu.go:130", after := #[], guard := none }) (v := ?v74) rfl (by kernel_rfl) (by kernel_rfl) (by kernel_rfl) (fun _ _ _ h => h) (Or.inl ⟨by rfl, ?y74⟩) (by assumption) ?z74
          case y74 => (intro w hSw; (try dsimp only at hSw); go_simp) <;> with_reducible rfl
          try simp only [Act.put, List.setIfInBounds_toArray, List.set_cons_zero, List.set_cons_succ]
          refine wpAnyH_take (i := 2) (oi := { dst := some 54, op := Go.Op.nilCheck (Go.Operand.tmp 53), type := 0, pos := "ppu.go:130", after := #[{ on := 1, ground := Go.Ground.data }], guard := none }) (v := ?v75) rfl (by kernel_rfl) (by kernel_rfl) (by kernel_rfl) (fun _ _ _ h => h) (Or.inl ⟨by rfl, ?y75⟩) (by assumption) ?z75
          case y75 => (intro w hSw; (try dsimp only at hSw); go_simp) <;> with_reducible rfl
          try simp only [Act.put, List.setIfInBounds_toArray, List.set_cons_zero, List.set_cons_succ]
          refine wpAnyH_take (i := 3) (oi := { dst := some 55, op := Go.Op.fieldAddr 61 (Go.Operand.tmp 54) 0, type := 0, pos := "ppu.go:130", after := #[{ on := 2, ground := Go.Ground.data }], guard := none }) (v := ?v76) rfl (by kernel_rfl) (by kernel_rfl) (by kernel_rfl) (fun _ _ _ h => h) (Or.inl ⟨by rfl, ?y76⟩) (by assumption) ?z76
          case y76 => (intro w hSw; (try dsimp only at hSw); go_simp) <;> with_reducible rfl
          try simp only [Act.put, List.setIfInBounds_toArray, List.set_cons_zero, List.set_cons_succ]
          refine wpAnyH_take (i := 4) (oi := { dst := some 56, op := Go.Op.slice 58 (Go.Operand.tmp 55) none none none, type := 31, pos := "ppu.go:130", after := #[{ on := 3, ground := Go.Ground.data }], guard := none }) (v := ?v77) rfl (by kernel_rfl) (by kernel_rfl) (by kernel_rfl) (fun _ _ _ h => h) (Or.inl ⟨by rfl, ?y77⟩) (by assumption) ?z77
          case y77 => (intro w hSw; (try dsimp only at hSw); go_simp) <;> with_reducible rfl
          try simp only [Act.put, List.setIfInBounds_toArray, List.set_cons_zero, List.set_cons_succ]
          refine wpAnyH_take (i := 5) (oi := { dst := some 57, op := Go.Op.move (Go.Operand.tmp 5), type := 3, pos := "ppu.go:130", after := #[], guard := none }) (v := ?v78) rfl (by kernel_rfl) (by kernel_rfl) (by kernel_rfl) (fun _ _ _ h => h) (Or.inl ⟨by rfl, ?y78⟩) (by assumption) ?z78
          case y78 => (intro w hSw; (try dsimp only at hSw); go_simp) <;> with_reducible rfl
          try simp only [Act.put, List.setIfInBounds_toArray, List.set_cons_zero, List.set_cons_succ]
          refine wpAnyH_take (i := 6) (oi := { dst := some 58, op := Go.Op.move (Go.Operand.tmp 0), type := 25, pos := "ppu.go:130", after := #[], guard := none }) (v := ?v79) rfl (by kernel_rfl) (by kernel_rfl) (by kernel_rfl) (fun _ _ _ h => h) (Or.inl ⟨by rfl, ?y79⟩) (by assumption) ?z79
          case y79 => (intro w hSw; (try dsimp only at hSw); go_simp) <;> with_reducible rfl
          try simp only [Act.put, List.setIfInBounds_toArray, List.set_cons_zero, List.set_cons_succ]
          refine wpAnyH_take (i := 7) (oi := { dst := some 59, op := Go.Op.nilCheck (Go.Operand.tmp 58), type := 0, pos := "ppu.go:130", after := #[{ on := 6, ground := Go.Ground.data }], guard := none }) (v := ?v80) rfl (by kernel_rfl) (by kernel_rfl) (by kernel_rfl) (fun _ _ _ h => h) (Or.inl ⟨by rfl, ?y80⟩) (by assumption) ?z80
          case y80 => (intro w hSw; (try dsimp only at hSw); go_simp) <;> with_reducible rfl
          try simp only [Act.put, List.setIfInBounds_toArray, List.set_cons_zero, List.set_cons_succ]
          refine wpAnyH_take (i := 8) (oi := { dst := some 60, op := Go.Op.fieldAddr 61 (Go.Operand.tmp 59) 4, type := 0, pos := "ppu.go:130", after := #[{ on := 7, ground := Go.Ground.data }], guard := none }) (v := ?v81) rfl (by kernel_rfl) (by kernel_rfl) (by kernel_rfl) (fun _ _ _ h => h) (Or.inl ⟨by rfl, ?y81⟩) (by assumption) ?z81
          case y81 => (intro w hSw; (try dsimp only at hSw); go_simp) <;> with_reducible rfl
          try simp only [Act.put, List.setIfInBounds_toArray, List.set_cons_zero, List.set_cons_succ]
          refine wpAnyH_take (i := 9) (oi := { dst := some 61, op := Go.Op.load 5 (Go.Operand.tmp 60), type := 5, pos := "ppu.go:130", after := #[{ on := 8, ground := Go.Ground.data }], guard := none }) (v := ?v82) rfl (by kernel_rfl) (by kernel_rfl) (by kernel_rfl) (fun _ _ _ h => h) (Or.inl ⟨by rfl, ?y82⟩) (by assumption) ?z82
          case y82 => (intro w hSw; (try dsimp only at hSw); go_simp) <;> with_reducible rfl
          try simp only [Act.put, List.setIfInBounds_toArray, List.set_cons_zero, List.set_cons_succ]
          refine wpAnyH_take (i := 10) (oi := { dst := some 62, op := Go.Op.convert 5 3 (Go.Operand.tmp 61), type := 3, pos := "ppu.go:130", after := #[{ on := 9, ground := Go.Ground.data }], guard := none }) (v := ?v83) rfl (by kernel_rfl) (by kernel_rfl) (by kernel_rfl) (fun _ _ _ h => h) (Or.inl ⟨by rfl, ?y83⟩) (by assumption) ?z83
          case y83 => (intro w hSw; (try dsimp only at hSw); go_simp) <;> with_reducible rfl
          try simp only [Act.put, List.setIfInBounds_toArray, List.set_cons_zero, List.set_cons_succ]
          refine wpAnyH_ready (rs := [11, 15]) (by kernel_rfl) (by simp) ?_
          refine (AllReadyH.cons (o := { dst := some 63, op := Go.Op.call { callee := Go.Callee.value (Go.Operand.func 57), args := #[Go.Operand.tmp 52, Go.Operand.tmp 56, Go.Operand.tmp 57, Go.Operand.tmp 62], argTypes := #[80, 31, 3, 3] }, type := 82, pos := "ppu.go:130", after := #[{ on := 0, ground := Go.Ground.data }, { on := 4, ground := Go.Ground.data }, { on := 5, ground := Go.Ground.data }, { on := 10, ground := Go.Ground.data }], guard := none }) rfl (fun K hK => ?_) (AllReadyH.cons (o := { dst := some 6, op := Go.Op.alloc 34, type := 0, pos := "ppu.go:130", after := #[], guard := none }) rfl (fun K hK => ?_) AllReadyH.nil))
          · skip
            go_simp
            with_reducible refine ((HLN.out _ (mem_vid P7.out HB.out))).mono ?_
            rintro q_ u8 ⟨rfl, hb⟩
            have P8 := Lib.hid (P7.out.below hb)
            have K8 := Lib.hid (K7.out.trans (Keeps.of_below hb))
            have X8 := Lib.hid (X7.out.below hb)
            have Y8 := Lib.hid (Y7.out.below hb)
            clear hb
            clear P7 K7 X7 Y7
            refine hK.out _ _ ?s84 (fun hNew => ?r84)
            case s84 => exact ⟨P8.out.2.1, range_of_has X8.out⟩
            clear hK K hHeld
            have hHeld := hNew
            clear hNew
            refine wpAnyH_take (i := 12) (oi := { dst := some 51, op := Go.Op.move (Go.Operand.tmp 63), type := 82, pos := "ppu.go:130", after := #[{ on := 11, ground := Go.Ground.data }], guard := none }) (v := ?v85) rfl (by kernel_rfl) (by kernel_rfl) (by kernel_rfl) (fun _ _ _ h => h) (Or.inl ⟨by rfl, ?y85⟩) (by assumption) ?z85
            case y85 => (intro w hSw; (try dsimp only at hSw); go_simp) <;> with_reducible rfl
            try simp only [Act.put, List.setIfInBounds_toArray, List.set_cons_zero, List.set_cons_succ]
            refine wpAnyH_take (i := 13) (oi := { dst := some 64, op := Go.Op.extract (Go.Operand.tmp 51) 0, type := 34, pos := "ppu.go:130", after := #[{ on := 12, ground := Go.Ground.data }], guard := none }) (v := ?v86) rfl (by kernel_rfl) (by kernel_rfl) (by kernel_rfl) (fun _ _ _ h => h) (Or.inl ⟨by rfl, ?y86⟩) (by assumption) ?z86
            case y86 => (intro w hSw; (try dsimp only at hSw); go_simp) <;> with_reducible rfl
            try simp only [Act.put, List.setIfInBounds_toArray, List.set_cons_zero, List.set_cons_succ]
            refine wpAnyH_take (i := 14) (oi := { dst := some 65, op := Go.Op.extract (Go.Operand.tmp 51) 1, type := 4, pos := "ppu.go:130", after := #[{ on := 12, ground := Go.Ground.data }, { on := 16, ground := Go.Ground.gcOnly Go.Departure.lateStores }], guard := none }) (v := ?v87) rfl (by kernel_rfl) (by kernel_rfl) (by kernel_rfl) (fun _ _ _ h => h) (Or.inl ⟨by rfl, ?y87⟩) (by assumption) ?z87
            case y87 => (intro w hSw; (try dsimp only at hSw); go_simp) <;> with_reducible rfl
            try simp only [Act.put, List.setIfInBounds_toArray, List.set_cons_zero, List.set_cons_succ]
            refine wpAnyH_ready (rs := [15]) (by kernel_rfl) (by simp) ?_
            refine (AllReadyH.cons (o := { dst := some 6, op := Go.Op.alloc 34, type := 0, pos := "ppu.go:130", after := #[], guard := none }) rfl (fun K hK => ?_) AllReadyH.nil)
            · skip
              go_simp
              have Q_ := own1 u8 (.cells Try.zeroCells34 34)
              have P9 := Lib.hid (P8.out.below Q_)
              have K9 := Lib.hid (K8.out.trans (Keeps.of_below Q_))
              have X9 := Lib.hid (X8.out.below Q_)
              have Y9 := Lib.hid (Y8.out.below Q_)
              have Z9 := Lib.hid (Has.new u8 Try.zeroCells34 34)
              have LZ := Lib.hid (K8.out.size)
              have NZ := Lib.hid (Nat.ne_of_lt P8.out.1)
              have NXZ := Lib.hid (Nat.ne_of_lt X8.out.1)
              have NYZ := Lib.hid (Nat.ne_of_lt Y8.out.1)
              clear Q_
              clear P8 K8 X8 Y8
              generalize u8.alloc (.cells Try.zeroCells34 34) = u9 at P9 K9 X9 Y9 Z9 ⊢
              generalize u8.heap.size = zb at Z9 LZ NZ NXZ NYZ ⊢
              refine hK.out _ _ ?s88 (fun hNew => ?r88)
              case s88 => exact ⟨P9.out.2.1, range_of_has X9.out⟩
              clear hK K hHeld
              have hHeld := hNew
              clear hNew
              refine wpAnyH_ready (rs := [16]) (by kernel_rfl) (by simp) ?_
              refine (AllReadyH.cons (o := { dst := none, op := Go.Op.store 34 (Go.Operand.tmp 6) (Go.Operand.tmp 64), type := 0, pos := "ppu.go:130", after := #[{ on := 15, ground := Go.Ground.data }, { on := 13, ground := Go.Ground.data }, { on := 11, ground := Go.Ground.chain }, { on := 0, ground := Go.Ground.phase }, { on := 1, ground := Go.Ground.phase }, { on := 2, ground := Go.Ground.phase }, { on := 3, ground := Go.Ground.phase }, { on := 4, ground := Go.Ground.phase }, { on := 5, ground := Go.Ground.phase }, { on := 6, ground := Go.Ground.phase }, { on := 7, ground := Go.Ground.phase }, { on := 8, ground := Go.Ground.phase }, { on := 9, ground := Go.Ground.phase }, { on := 10, ground := Go.Ground.phase }, { on := 11, ground := Go.Ground.phase }, { on := 12, ground := Go.Ground.phase }, { on := 13, ground := Go.Ground.phase }, { on := 14, ground := Go.Ground.textOnly Go.Departure.lateStores }, { on := 15, ground := Go.Ground.phase }], guard := none }) rfl (fun K hK => ?_) AllReadyH.nil)
              · skip
                refine wp_store_g r34 Z9.out Try.zeroCells34_size (enc U) (enc_size _) (enc_one _) _ _ rfl rfl rfl ?_
                intro u10 hP hk
                try simp only [Act.put, List.setIfInBounds_toArray, List.set_cons_zero, List.set_cons_succ]
                have Z10 := Lib.hid hP
                have K10 := Lib.hid (keeps_new K9.out LZ.out hk)
                have P10 := Lib.hid (hk.has NZ.out P9.out)
                have X10 := Lib.hid (hk.has NXZ.out X9.out)
                have Y10 := Lib.hid (hk.has NYZ.out Y9.out)
                clear hP hk
                clear P9 K9 X9 Y9 Z9
                refine hK.out _ _ ?s89 (fun hNew => ?r89)
                case s89 => exact ⟨P10.out.2.1, range_of_has X10.out⟩
                clear hK K hHeld
                have hHeld := hNew
                clear hNew
                refine wpAnyH_take (i := 17) (oi := { dst := some 7, op := Go.Op.assign (Go.Operand.tmp 65), type := 4, pos := "ppu.go:130", after := #[{ on := 14, ground := Go.Ground.data }, { on := 16, ground := Go.Ground.chain }, { on := 0, ground := Go.Ground.phase }, { on := 1, ground := Go.Ground.phase }, { on := 2, ground := Go.Ground.phase }, { on := 3, ground := Go.Ground.phase }, { on := 4, ground := Go.Ground.phase }, { on := 5, ground := Go.Ground.phase }, { on := 6, ground := Go.Ground.phase }, { on := 7, ground := Go.Ground.phase }, { on := 8, ground := Go.Ground.phase }, { on := 9, ground := Go.Ground.phase }, { on := 10, ground := Go.Ground.phase }, { on := 11, ground := Go.Ground.phase }, { on := 12, ground := Go.Ground.phase }, { on := 13, ground := Go.Ground.phase }, { on := 14, ground := Go.Ground.phase }, { on := 15, ground := Go.Ground.phase }, { on := 16, ground := Go.Ground.phase }], guard := none }) (v := ?v90) rfl (by kernel_rfl) (by kernel_rfl) (by kernel_rfl) (fun _ _ _ h => h) (Or.inl ⟨by rfl, ?y90⟩) (by assumption) ?z90
                case y90 => (intro w hSw; (try dsimp only at hSw); go_simp) <;> with_reducible rfl
                try simp only [Act.put, List.setIfInBounds_toArray, List.set_cons_zero, List.set_cons_succ]
                refine wpAnyH_done (by kernel_rfl) ?_ _
                clear hHeld
                clear e_ow
                go_upto_region 5 with (fail)
                have P11 := Lib.hid P10.out.drew
                have X11 := Lib.hid X10.out.drew
                have Y11 := Lib.hid Y10.out.drew
                have Z11 := Lib.hid Z10.out.drew
                have K11 := Lib.hid (K10.out.drew)
                clear P10 K10 X10 Y10 Z10
                refine wp_region_held_drew (S := (fun w' => w'.rangeAt yb 0 (#[.int .u8 c, .int .u8 bk, .int .u8 fi, .int .u8 se] : Array Value).toList ∧ w'.rangeAt zb 0 (enc U).toList)) (by kernel_rfl) ⟨range_of_has Y11.out, range_of_has Z11.out⟩ (fun hHeld => ?_)
                generalize World.drew _ = u11 at hHeld P11 K11 X11 Y11 Z11 ⊢
                refine wpAnyH_take (i := 0) (oi := { dst := some 66, op := Go.Op.move (Go.Operand.tmp 0), type := 25, pos := "ppu.go:131", after := #[], guard := none }) (v := ?v91) rfl (by kernel_rfl) (by kernel_rfl) (by kernel_rfl) (fun _ _ _ h => h) (Or.inl ⟨by rfl, ?y91⟩) (by assumption) ?z91
                case y91 => (intro w hSw; (try dsimp only at hSw); go_simp) <;> with_reducible rfl
                try simp only [Act.put, List.setIfInBounds_toArray, List.set_cons_zero, List.set_cons_succ]
                refine wpAnyH_take (i := 1) (oi := { dst := some 67, op := Go.Op.move (Go.Operand.tmp 5), type := 3, pos := "ppu.go:131", after := #[], guard := none }) (v := ?v92) rfl (by kernel_rfl) (by kernel_rfl) (by kernel_rfl) (fun _ _ _ h => h) (Or.inl ⟨by rfl, ?y92⟩) (by assumption) ?z92
                case y92 => (intro w hSw; (try dsimp only at hSw); go_simp) <;> with_reducible rfl
                try simp only [Act.put, List.setIfInBounds_toArray, List.set_cons_zero, List.set_cons_succ]
                refine wpAnyH_take (i := 2) (oi := { dst := some 68, op := Go.Op.load 81 (Go.Operand.tmp 4), type := 81, pos := "ppu.go:131", after := #[], guard := none }) (v := .agg #[.int .u8 c, .int .u8 bk, .int .u8 fi, .int .u8 se]) rfl (by kernel_rfl) (by kernel_rfl) (by kernel_rfl) (fun _ _ _ h => h) (yields_load r27 #[.int .u8 c, .int .u8 bk, .int .u8 fi, .int .u8 se] rfl yb (fun w hw => hw.1) (by rfl) _ rfl rfl) (by assumption) ?_
                try simp only [Act.put, List.setIfInBounds_toArray, List.set_cons_zero, List.set_cons_succ]
                refine wpAnyH_take (i := 3) (oi := { dst := some 69, op := Go.Op.move (Go.Operand.tmp 0), type := 25, pos := "ppu.go:131", after := #[], guard := none }) (v := ?v94) rfl (by kernel_rfl) (by kernel_rfl) (by kernel_rfl) (fun _ _ _ h => h) (Or.inl ⟨by rfl, ?y94⟩) (by assumption) ?z94
                case y94 => (intro w hSw; (try dsimp only at hSw); go_simp) <;> with_reducible rfl
                try simp only [Act.put, List.setIfInBounds_toArray, List.set_cons_zero, List.set_cons_succ]
                refine wpAnyH_take (i := 4) (oi := { dst := some 70, op := Go.Op.nilCheck (Go.Operand.tmp 69), type := 0, pos := "ppu.go:131", after := #[{ on := 3, ground := Go.Ground.data }], guard := none }) (v := ?v95) rfl (by kernel_rfl) (by kernel_rfl) (by kernel_rfl) (fun _ _ _ h => h) (Or.inl ⟨by rfl, ?y95⟩) (by assumption) ?z95
                case y95 => (intro w hSw; (try dsimp only at hSw); go_simp) <;> with_reducible rfl
                try simp only [Act.put, List.setIfInBounds_toArray, List.set_cons_zero, List.set_cons_succ]
                refine wpAnyH_take (i := 5) (oi := { dst := some 71, op := Go.Op.fieldAddr 61 (Go.Operand.tmp 70) 0, type := 0, pos := "ppu.go:131", after := #[{ on := 4, ground := Go.Ground.data }], guard := none }) (v := ?v96) rfl (by kernel_rfl) (by kernel_rfl) (by kernel_rfl) (fun _ _ _ h => h) (Or.inl ⟨by rfl, ?y96⟩) (by assumption) ?z96
                case y96 => (intro w hSw; (try dsimp only at hSw); go_simp) <;> with_reducible rfl
                try simp only [Act.put, List.setIfInBounds_toArray, List.set_cons_zero, List.set_cons_succ]
                refine wpAnyH_take (i := 6) (oi := { dst := some 72, op := Go.Op.slice 58 (Go.Operand.tmp 71) none none none, type := 31, pos := "ppu.go:131", after := #[{ on := 5, ground := Go.Ground.data }], guard := none }) (v := ?v97) rfl (by kernel_rfl) (by kernel_rfl) (by kernel_rfl) (fun _ _ _ h => h) (Or.inl ⟨by rfl, ?y97⟩) (by assumption) ?z97
                case y97 => (intro w hSw; (try dsimp only at hSw); go_simp) <;> with_reducible rfl
                try simp only [Act.put, List.setIfInBounds_toArray, List.set_cons_zero, List.set_cons_succ]
                refine wpAnyH_take (i := 7) (oi := { dst := some 73, op := Go.Op.move (Go.Operand.tmp 0), type := 25, pos := "ppu.go:131", after := #[], guard := none }) (v := ?v98) rfl (by kernel_rfl) (by kernel_rfl) (by kernel_rfl) (fun _ _ _ h => h) (Or.inl ⟨by rfl, ?y98⟩) (by assumption) ?z98
                case y98 => (intro w hSw; (try dsimp only at hSw); go_simp) <;> with_reducible rfl
                try simp only [Act.put, List.setIfInBounds_toArray, List.set_cons_zero, List.set_cons_succ]
                refine wpAnyH_take (i := 8) (oi := { dst := some 74, op := Go.Op.nilCheck (Go.Operand.tmp 73), type := 0, pos := "ppu.go:131", after := #[{ on := 7, ground := Go.Ground.data }], guard := none }) (v := ?v99) rfl (by kernel_rfl) (by kernel_rfl) (by kernel_rfl) (fun _ _ _ h => h) (Or.inl ⟨by rfl, ?y99⟩) (by assumption) ?z99
                case y99 => (intro w hSw; (try dsimp only at hSw); go_simp) <;> with_reducible rfl
                try simp only [Act.put, List.setIfInBounds_toArray, List.set_cons_zero, List.set_cons_succ]
                refine wpAnyH_take (i := 9) (oi := { dst := some 75, op := Go.Op.fieldAddr 61 (Go.Operand.tmp 74) 1, type := 0, pos := "ppu.go:131", after := #[{ on := 8, ground := Go.Ground.data }], guard := none }) (v := ?v100) rfl (by kernel_rfl) (by kernel_rfl) (by kernel_rfl) (fun _ _ _ h => h) (Or.inl ⟨by rfl, ?y100⟩) (by assumption) ?z100
                case y100 => (intro w hSw; (try dsimp only at hSw); go_simp) <;> with_reducible rfl
                try simp only [Act.put, List.setIfInBounds_toArray, List.set_cons_zero, List.set_cons_succ]
                refine wpAnyH_take (i := 10) (oi := { dst := some 76, op := Go.Op.slice 34 (Go.Operand.tmp 75) none none none, type := 31, pos := "ppu.go:131", after := #[{ on := 9, ground := Go.Ground.data }], guard := none }) (v := ?v101) rfl (by kernel_rfl) (by kernel_rfl) (by kernel_rfl) (fun _ _ _ h => h) (Or.inl ⟨by rfl, ?y101⟩) (by assumption) ?z101
                case y101 => (intro w hSw; (try dsimp only at hSw); go_simp) <;> with_reducible rfl
                try simp only [Act.put, List.setIfInBounds_toArray, List.set_cons_zero, List.set_cons_succ]
                refine wpAnyH_take (i := 11) (oi := { dst := some 77, op := Go.Op.move (Go.Operand.tmp 5), type := 3, pos := "ppu.go:131", after := #[], guard := none }) (v := ?v102) rfl (by kernel_rfl) (by kernel_rfl) (by kernel_rfl) (fun _ _ _ h => h) (Or.inl ⟨by rfl, ?y102⟩) (by assumption) ?z102
                case y102 => (intro w hSw; (try dsimp only at hSw); go_simp) <;> with_reducible rfl
                try simp only [Act.put, List.setIfInBounds_toArray, List.set_cons_zero, List.set_cons_succ]
                refine wpAnyH_take (i := 12) (oi := { dst := some 78, op := Go.Op.load 34 (Go.Operand.tmp 6), type := 34, pos := "ppu.go:131", after := #[], guard := none }) (v := .agg (enc U)) rfl (by kernel_rfl) (by kernel_rfl) (by kernel_rfl) (fun _ _ _ h => h) (yields_load r34 (enc U) (enc_size _) zb (fun w hw => hw.2) (by rfl) _ rfl rfl) (by assumption) ?_
                try simp only [Act.put, List.setIfInBounds_toArray, List.set_cons_zero, List.set_cons_succ]
                refine wpAnyH_take (i := 14) (oi := { dst := some 80, op := Go.Op.nilCheck (Go.Operand.tmp 66), type := 0, pos := "ppu.go:131", after := #[{ on := 0, ground := Go.Ground.data }], guard := none }) (v := ?v104) rfl (by kernel_rfl) (by kernel_rfl) (by kernel_rfl) (fun _ _ _ h => h) (Or.inl ⟨by rfl, ?y104⟩) (by assumption) ?z104
                case y104 => (intro w hSw; (try dsimp only at hSw); go_simp) <;> with_reducible rfl
                try simp only [Act.put, List.setIfInBounds_toArray, List.set_cons_zero, List.set_cons_succ]
                refine wpAnyH_take (i := 15) (oi := { dst := some 81, op := Go.Op.fieldAddr 61 (Go.Operand.tmp 80) 7, type := 0, pos := "ppu.go:131", after := #[{ on := 14, ground := Go.Ground.data }], guard := none }) (v := ?v105) rfl (by kernel_rfl) (by kernel_rfl) (by kernel_rfl) (fun _ _ _ h => h) (Or.inl ⟨by rfl, ?y105⟩) (by assumption) ?z105
                case y105 => (intro w hSw; (try dsimp only at hSw); go_simp) <;> with_reducible rfl
                try simp only [Act.put, List.setIfInBounds_toArray, List.set_cons_zero, List.set_cons_succ]
                refine wpAnyH_ready (rs := [13]) (by kernel_rfl) (by simp) ?_
                refine (AllReadyH.cons (o := { dst := some 79, op := Go.Op.call { callee := Go.Callee.value (Go.Operand.func 58), args := #[Go.Operand.tmp 68, Go.Operand.tmp 72, Go.Operand.tmp 76, Go.Operand.tmp 77, Go.Operand.tmp 78], argTypes := #[81, 31, 31, 3, 34] }, type := 34, pos := "ppu.go:131", after := #[{ on := 2, ground := Go.Ground.data }, { on := 6, ground := Go.Ground.data }, { on := 10, ground := Go.Ground.data }, { on := 11, ground := Go.Ground.data }, { on := 12, ground := Go.Ground.data }], guard := none }) rfl (fun K hK => ?_) AllReadyH.nil)
                · skip
                  go_simp
                  with_reducible refine ((HLK.out _ (mem_vid P11.out HB.out) (mem_oam P11.out HB.out))).mono ?_
                  rintro q_ u12 ⟨rfl, hb⟩
                  have P12 := Lib.hid (P11.out.below hb)
                  have K12 := Lib.hid (K11.out.trans (Keeps.of_below hb))
                  have X12 := Lib.hid (X11.out.below hb)
                  have Y12 := Lib.hid (Y11.out.below hb)
                  have Z12 := Lib.hid (Z11.out.below hb)
                  clear hb
                  clear P11 K11 X11 Y11 Z11
                  refine hK.out _ _ ?s106 (fun hNew => ?r106)
                  case s106 => exact ⟨range_of_has Y12.out, range_of_has Z12.out⟩
                  clear hK K hHeld
                  have hHeld := hNew
                  clear hNew
                  refine wpAnyH_take (i := 16) (oi := { dst := some 82, op := Go.Op.indexAddr 35 (Go.Operand.tmp 81) (Go.Operand.tmp 67), type := 0, pos := "ppu.go:131", after := #[{ on := 15, ground := Go.Ground.data }, { on := 1, ground := Go.Ground.data }, { on := 0, ground := Go.Ground.phase }, { on := 1, ground := Go.Ground.phase }, { on := 2, ground := Go.Ground.phase }, { on := 3, ground := Go.Ground.phase }, { on := 4, ground := Go.Ground.phase }, { on := 5, ground := Go.Ground.phase }, { on := 6, ground := Go.Ground.phase }, { on := 7, ground := Go.Ground.phase }, { on := 8, ground := Go.Ground.phase }, { on := 9, ground := Go.Ground.phase }, { on := 10, ground := Go.Ground.phase }, { on := 11, ground := Go.Ground.phase }, { on := 12, ground := Go.Ground.phase }, { on := 13, ground := Go.Ground.phase }], guard := none }) (v := ?v107) rfl (by kernel_rfl) (by kernel_rfl) (by kernel_rfl) (fun _ _ _ h => h) (Or.inl ⟨by rfl, ?y107⟩) (by assumption) ?z107
                  case y107 => (intro w hSw; (try dsimp only at hSw); go_simp) <;> with_reducible rfl
                  try simp only [Act.put, List.setIfInBounds_toArray, List.set_cons_zero, List.set_cons_succ]
                  refine wpAnyH_ready (rs := [17]) (by kernel_rfl) (by simp) ?_
                  refine (AllReadyH.cons (o := { dst := none, op := Go.Op.store 34 (Go.Operand.tmp 82) (Go.Operand.tmp 79), type := 0, pos := "ppu.go:131", after := #[{ on := 16, ground := Go.Ground.data }, { on := 13, ground := Go.Ground.data }, { on := 13, ground := Go.Ground.chain }, { on := 0, ground := Go.Ground.phase }, { on := 1, ground := Go.Ground.phase }, { on := 2, ground := Go.Ground.phase }, { on := 3, ground := Go.Ground.phase }, { on := 4, ground := Go.Ground.phase }, { on := 5, ground := Go.Ground.phase }, { on := 6, ground := Go.Ground.phase }, { on := 7, ground := Go.Ground.phase }, { on := 8, ground := Go.Ground.phase }, { on := 9, ground := Go.Ground.phase }, { on := 10, ground := Go.Ground.phase }, { on := 11, ground := Go.Ground.phase }, { on := 12, ground := Go.Ground.phase }, { on := 13, ground := Go.Ground.phase }], guard := none }) rfl (fun K hK => ?_) AllReadyH.nil)
                  · skip
                    refine wp_store_row P12.out R _ _ rfl (8367 + n * 160) rfl rfl (by omega) (by omega) ?_
                    intro u13 hP hk
                    try simp only [Act.put, List.setIfInBounds_toArray, List.set_cons_zero, List.set_cons_succ]
                    have P13 := Lib.hid hP
                    have K13 := Lib.hid (K12.out.trans hk)
                    have X13 := Lib.hid (hk.has (Ne.symm NX.out) X12.out)
                    have Y13 := Lib.hid (hk.has (Ne.symm NY.out) Y12.out)
                    have Z13 := Lib.hid (hk.has (Ne.symm NZ.out) Z12.out)
                    clear hP hk
                    clear P12 K12 X12 Y12 Z12
                    refine hK.out _ _ ?s108 (fun hNew => ?r108)
                    case s108 => exact ⟨range_of_has Y13.out, range_of_has Z13.out⟩
                    clear hK K hHeld
                    have hHeld := hNew
                    clear hNew
                    refine wpAnyH_done (by kernel_rfl) ?_ _
                    clear hHeld
                    obtain ⟨hc, hf⟩ := P13.out.out
                    have e_ow : (encU (row m (8367 + n * 160) 160 R))[8364]? = some (.int .u8 ow) := (encU_u _ 8364 (by decide) (by decide) (by decide)).trans (congrArg (fun x => some (Value.int .u8 x)) ((row_out _ _ _ _ _ (by omega)).trans How.out))
                    have hw : IntKind.u8.wrap (ow + 1) = ow + 1 := by rw [IntKind.wrap_u8]; omega
                    go_wp2_with (refine ust_u P13.out rfl _ _ rfl _ rfl _ rfl (by omega) (by omega) (by omega) ?_)
                    intro u14 hP hk
                    clear hc hf e_ow
                    replace hP : Has u14 b (encU (upd (row m (8367 + n * 160) 160 R) 8364 (ow + 1))) := hP
                    have P14 := Lib.hid hP
                    have K14 := Lib.hid (K13.out.trans hk)
                    clear hP hk P13 K13
                    try simp only [Act.put]
                    go_wp2
                    all_goals first | exact bodyPost_ret (v := .tuple #[]) (by simp [results, Try.results44, go_sem]) rfl ⟨rfl, P14.out, K14.out⟩ | exact bodyPost_end (v := .tuple #[]) (by simp [results, Try.results44, go_sem]) rfl ⟨rfl, P14.out, K14.out⟩
          · skip
            go_simp
            have Q_ := own1 u7 (.cells Try.zeroCells34 34)
            have P8 := Lib.hid (P7.out.below Q_)
            have K8 := Lib.hid (K7.out.trans (Keeps.of_below Q_))
            have X8 := Lib.hid (X7.out.below Q_)
            have Y8 := Lib.hid (Y7.out.below Q_)
            have Z8 := Lib.hid (Has.new u7 Try.zeroCells34 34)
            have LZ := Lib.hid (K7.out.size)
            have NZ := Lib.hid (Nat.ne_of_lt P7.out.1)
            have NXZ := Lib.hid (Nat.ne_of_lt X7.out.1)
            have NYZ := Lib.hid (Nat.ne_of_lt Y7.out.1)
            clear Q_
            clear P7 K7 X7 Y7
            generalize u7.alloc (.cells Try.zeroCells34 34) = u8 at P8 K8 X8 Y8 Z8 ⊢
            generalize u7.heap.size = zb at Z8 LZ NZ NXZ NYZ ⊢
            refine hK.out _ _ ?s109 (fun hNew => ?r109)
            case s109 => exact ⟨P8.out.2.1, range_of_has X8.out⟩
            clear hK K hHeld
            have hHeld := hNew
            clear hNew
            refine wpAnyH_ready (rs := [11]) (by kernel_rfl) (by simp) ?_
            refine (AllReadyH.cons (o := { dst := some 63, op := Go.Op.call { callee := Go.Callee.value (Go.Operand.func 57), args := #[Go.Operand.tmp 52, Go.Operand.tmp 56, Go.Operand.tmp 57, Go.Operand.tmp 62], argTypes := #[80, 31, 3, 3] }, type := 82, pos := "ppu.go:130", after := #[{ on := 0, ground := Go.Ground.data }, { on := 4, ground := Go.Ground.data }, { on := 5, ground := Go.Ground.data }, { on := 10, ground := Go.Ground.data }], guard := none }) rfl (fun K hK => ?_) AllReadyH.nil)
            · skip
              go_simp
              with_reducible refine ((HLN.out _ (mem_vid P8.out HB.out))).mono ?_
              rintro q_ u9 ⟨rfl, hb⟩
              have P9 := Lib.hid (P8.out.below hb)
              have K9 := Lib.hid (K8.out.trans (Keeps.of_below hb))
              have X9 := Lib.hid (X8.out.below hb)
              have Y9 := Lib.hid (Y8.out.below hb)
              have Z9 := Lib.hid (Z8.out.below hb)
              clear hb
              clear P8 K8 X8 Y8 Z8
              refine hK.out _ _ ?s110 (fun hNew => ?r110)
              case s110 => exact ⟨P9.out.2.1, range_of_has X9.out⟩
              clear hK K hHeld
              have hHeld := hNew
              clear hNew
              refine wpAnyH_take (i := 12) (oi := { dst := some 51, op := Go.Op.move (Go.Operand.tmp 63), type := 82, pos := "ppu.go:130", after := #[{ on := 11, ground := Go.Ground.data }], guard := none }) (v := ?v111) rfl (by kernel_rfl) (by kernel_rfl) (by kernel_rfl) (fun _ _ _ h => h) (Or.inl ⟨by rfl, ?y111⟩) (by assumption) ?z111
              case y111 => (intro w hSw; (try dsimp only at hSw); go_simp) <;> with_reducible rfl
              try simp only [Act.put, List.setIfInBounds_toArray, List.set_cons_zero, List.set_cons_succ]
              refine wpAnyH_take (i := 13) (oi := { dst := some 64, op := Go.Op.extract (Go.Operand.tmp 51) 0, type := 34, pos := "ppu.go:130", after := #[{ on := 12, ground := Go.Ground.data }], guard := none }) (v := ?v112) rfl (by kernel_rfl) (by kernel_rfl) (by kernel_rfl) (fun _ _ _ h => h) (Or.inl ⟨by rfl, ?y112⟩) (by assumption) ?z112
              case y112 => (intro w hSw; (try dsimp only at hSw); go_simp) <;> with_reducible rfl
              try simp only [Act.put, List.setIfInBounds_toArray, List.set_cons_zero, List.set_cons_succ]
              refine wpAnyH_take (i := 14) (oi := { dst := some 65, op := Go.Op.extract (Go.Operand.tmp 51) 1, type := 4, pos := "ppu.go:130", after := #[{ on := 12, ground := Go.Ground.data }, { on := 16, ground := Go.Ground.gcOnly Go.Departure.lateStores }], guard := none }) (v := ?v113) rfl (by kernel_rfl) (by kernel_rfl) (by kernel_rfl) (fun _ _ _ h => h) (Or.inl ⟨by rfl, ?y113⟩) (by assumption) ?z113
              case y113 => (intro w hSw; (try dsimp only at hSw); go_simp) <;> with_reducible rfl
              try simp only [Act.put, List.setIfInBounds_toArray, List.set_cons_zero, List.set_cons_succ]
              refine wpAnyH_ready (rs := [16]) (by kernel_rfl) (by simp) ?_
              refine (AllReadyH.cons (o := { dst := none, op := Go.Op.store 34 (Go.Operand.tmp 6) (Go.Operand.tmp 64), type := 0, pos := "ppu.go:130", after := #[{ on := 15, ground := Go.Ground.data }, { on := 13, ground := Go.Ground.data }, { on := 11, ground := Go.Ground.chain }, { on := 0, ground := Go.Ground.phase }, { on := 1, ground := Go.Ground.phase }, { on := 2, ground := Go.Ground.phase }, { on := 3, ground := Go.Ground.phase }, { on := 4, ground := Go.Ground.phase }, { on := 5, ground := Go.Ground.phase }, { on := 6, ground := Go.Ground.phase }, { on := 7, ground := Go.Ground.phase }, { on := 8, ground := Go.Ground.phase }, { on := 9, ground := Go.Ground.phase }, { on := 10, ground := Go.Ground.phase }, { on := 11, ground := Go.Ground.phase }, { on := 12, ground := Go.Ground.phase }, { on := 13, ground := Go.Ground.phase }, { on := 14, ground := Go.Ground.textOnly Go.Departure.lateStores }, { on := 15, ground := Go.Ground.phase }], guard := none }) rfl (fun K hK => ?_) AllReadyH.nil)
              · skip
                refine wp_store_g r34 Z9.out Try.zeroCells34_size (enc U) (enc_size _) (enc_one _) _ _ rfl rfl rfl ?_
                intro u10 hP hk
                try simp only [Act.put, List.setIfInBounds_toArray, List.set_cons_zero, List.set_cons_succ]
                have Z10 := Lib.hid hP
                have K10 := Lib.hid (keeps_new K9.out LZ.out hk)
                have P10 := Lib.hid (hk.has NZ.out P9.out)
                have X10 := Lib.hid (hk.has NXZ.out X9.out)
                have Y10 := Lib.hid (hk.has NYZ.out Y9.out)
                clear hP hk
                clear P9 K9 X9 Y9 Z9
                refine hK.out _ _ ?s114 (fun hNew => ?r114)
                case s114 => exact ⟨P10.out.2.1, range_of_has X10.out⟩
                clear hK K hHeld
                have hHeld := hNew
                clear hNew
                refine wpAnyH_take (i := 17) (oi := { dst := some 7, op := Go.Op.assign (Go.Operand.tmp 65), type := 4, pos := "ppu.go:130", after := #[{ on := 14, ground := Go.Ground.data }, { on := 16, ground := Go.Ground.chain }, { on := 0, ground := Go.Ground.phase }, { on := 1, ground := Go.Ground.phase }, { on := 2, ground := Go.Ground.phase }, { on := 3, ground := Go.Ground.phase }, { on := 4, ground := Go.Ground.phase }, { on := 5, ground := Go.Ground.phase }, { on := 6, ground := Go.Ground.phase }, { on := 7, ground := Go.Ground.phase }, { on := 8, ground := Go.Ground.phase }, { on := 9, ground := Go.Ground.phase }, { on := 10, ground := Go.Ground.phase }, { on := 11, ground := Go.Ground.phase }, { on := 12, ground := Go.Ground.phase }, { on := 13, ground := Go.Ground.phase }, { on := 14, ground := Go.Ground.phase }, { on := 15, ground := Go.Ground.phase }, { on := 16, ground := Go.Ground.phase }], guard := none }) (v := ?v115) rfl (by kernel_rfl) (by kernel_rfl) (by kernel_rfl) (fun _ _ _ h => h) (Or.inl ⟨by rfl, ?y115⟩) (by assumption) ?z115
                case y115 => (intro w hSw; (try dsimp only at hSw); go_simp) <;> with_reducible rfl
                try simp only [Act.put, List.setIfInBounds_toArray, List.set_cons_zero, List.set_cons_succ]
                refine wpAnyH_done (by kernel_rfl) ?_ _
                clear hHeld
                clear e_ow
                go_upto_region 5 with (fail)
                have P11 := Lib.hid P10.out.drew
                have X11 := Lib.hid X10.out.drew
                have Y11 := Lib.hid Y10.out.drew
                have Z11 := Lib.hid Z10.out.drew
                have K11 := Lib.hid (K10.out.drew)
                clear P10 K10 X10 Y10 Z10
                refine wp_region_held_drew (S := (fun w' => w'.rangeAt yb 0 (#[.int .u8 c, .int .u8 bk, .int .u8 fi, .int .u8 se] : Array Value).toList ∧ w'.rangeAt zb 0 (enc U).toList)) (by kernel_rfl) ⟨range_of_has Y11.out, range_of_has Z11.out⟩ (fun hHeld => ?_)
                generalize World.drew _ = u11 at hHeld P11 K11 X11 Y11 Z11 ⊢
                refine wpAnyH_take (i := 0) (oi := { dst := some 66, op := Go.Op.move (Go.Operand.tmp 0), type := 25, pos := "ppu.go:131", after := #[], guard := none }) (v := ?v116) rfl (by kernel_rfl) (by kernel_rfl) (by kernel_rfl) (fun _ _ _ h => h) (Or.inl ⟨by rfl, ?y116⟩) (by assumption) ?z116
                case y116 => (intro w hSw; (try dsimp only at hSw); go_simp) <;> with_reducible rfl
                try simp only [Act.put, List.setIfInBounds_toArray, List.set_cons_zero, List.set_cons_succ]
                refine wpAnyH_take (i := 1) (oi := { dst := some 67, op := Go.Op.move (Go.Operand.tmp 5), type := 3, pos := "ppu.go:131", after := #[], guard := none }) (v := ?v117) rfl (by kernel_rfl) (by kernel_rfl) (by kernel_rfl) (fun _ _ _ h => h) (Or.inl ⟨by rfl, ?y117⟩) (by assumption) ?z117
                case y117 => (intro w hSw; (try dsimp only at hSw); go_simp) <;> with_reducible rfl
                try simp only [Act.put, List.setIfInBounds_toArray, List.set_cons_zero, List.set_cons_succ]
                refine wpAnyH_take (i := 2) (oi := { dst := some 68, op := Go.Op.load 81 (Go.Operand.tmp 4), type := 81, pos := "ppu.go:131", after := #[], guard := none }) (v := .agg #[.int .u8 c, .int .u8 bk, .int .u8 fi, .int .u8 se]) rfl (by kernel_rfl) (by kernel_rfl) (by kernel_rfl) (fun _ _ _ h => h) (yields_load r27 #[.int .u8 c, .int .u8 bk, .int .u8 fi, .int .u8 se] rfl yb (fun w hw => hw.1) (by rfl) _ rfl rfl) (by assumption) ?_
                try simp only [Act.put, List.setIfInBounds_toArray, List.set_cons_zero, List.set_cons_succ]
                refine wpAnyH_take (i := 3) (oi := { dst := some 69, op := Go.Op.move (Go.Operand.tmp 0), type := 25, pos := "ppu.go:131", after := #[], guard := none }) (v := ?v119) rfl (by kernel_rfl) (by kernel_rfl) (by kernel_rfl) (fun _ _ _ h => h) (Or.inl ⟨by rfl, ?y119⟩) (by assumption) ?z119
                case y119 => (intro w hSw; (try dsimp only at hSw); go_simp) <;> with_reducible rfl
                try simp only [Act.put, List.setIfInBounds_toArray, List.set_cons_zero, List.set_cons_succ]
                refine wpAnyH_take (i := 4) (oi := { dst := some 70, op := Go.Op.nilCheck (Go.Operand.tmp 69), type := 0, pos := "ppu.go:131", after := #[{ on := 3, ground := Go.Ground.data }], guard := none }) (v := ?v120) rfl (by kernel_rfl) (by kernel_rfl) (by kernel_rfl) (fun _ _ _ h => h) (Or.inl ⟨by rfl, ?y120⟩) (by assumption) ?z120
                case y120 => (intro w hSw; (try dsimp only at hSw); go_simp) <;> with_reducible rfl
                try simp only [Act.put, List.setIfInBounds_toArray, List.set_cons_zero, List.set_cons_succ]
                refine wpAnyH_take (i := 5) (oi := { dst := some 71, op := Go.Op.fieldAddr 61 (Go.Operand.tmp 70) 0, type := 0, pos := "ppu.go:131", after := #[{ on := 4, ground := Go.Ground.data }], guard := none }) (v := ?v121) rfl (by kernel_rfl) (by kernel_rfl) (by kernel_rfl) (fun _ _ _ h => h) (Or.inl ⟨by rfl, ?y121⟩) (by assumption) ?z121
                case y121 => (intro w hSw; (try dsimp only at hSw); go_simp) <;> with_reducible rfl
                try simp only [Act.put, List.setIfInBounds_toArray, List.set_cons_zero, List.set_cons_succ]
                refine wpAnyH_take (i := 6) (oi := { dst := some 72, op := Go.Op.slice 58 (Go.Operand.tmp 71) none none none, type := 31, pos := "ppu.go:131", after := #[{ on := 5, ground := Go.Ground.data }], guard := none }) (v := ?v122) rfl (by kernel_rfl) (by kernel_rfl) (by kernel_rfl) (fun _ _ _ h => h) (Or.inl ⟨by rfl, ?y122⟩) (by assumption) ?z122
                case y122 => (intro w hSw; (try dsimp only at hSw); go_simp) <;> with_reducible rfl
                try simp only [Act.put, List.setIfInBounds_toArray, List.set_cons_zero, List.set_cons_succ]
                refine wpAnyH_take (i := 7) (oi := { dst := some 73, op := Go.Op.move (Go.Operand.tmp 0), type := 25, pos := "ppu.go:131", after := #[], guard := none }) (v := ?v123) rfl (by kernel_rfl) (by kernel_rfl) (by kernel_rfl) (fun _ _ _ h => h) (Or.inl ⟨by rfl, ?y123⟩) (by assumption) ?z123
                case y123 => (intro w hSw; (try dsimp only at hSw); go_simp) <;> with_reducible rfl
                try simp only [Act.put, List.setIfInBounds_toArray, List.set_cons_zero, List.set_cons_succ]
                refine wpAnyH_take (i := 8) (oi := { dst := some 74, op := Go.Op.nilCheck (Go.Operand.tmp 73), type := 0, pos := "ppu.go:131", after := #[{ on := 7, ground := Go.Ground.data }], guard := none }) (v := ?v124) rfl (by kernel_rfl) (by kernel_rfl) (by kernel_rfl) (fun _ _ _ h => h) (Or.inl ⟨by rfl, ?y124⟩) (by assumption) ?z124
                case y124 => (intro w hSw; (try dsimp only at hSw); go_simp) <;> with_reducible rfl
                try simp only [Act.put, List.setIfInBounds_toArray, List.set_cons_zero, List.set_cons_succ]
                refine wpAnyH_take (i := 9) (oi := { dst := some 75, op := Go.Op.fieldAddr 61 (Go.Operand.tmp 74) 1, type := 0, pos := "ppu.go:131", after := #[{ on := 8, ground := Go.Ground.data }], guard := none }) (v := ?v125) rfl (by kernel_rfl) (by kernel_rfl) (by kernel_rfl) (fun _ _ _ h => h) (Or.inl ⟨by rfl, ?y125⟩) (by assumption) ?z125
                case y125 => (intro w hSw; (try dsimp only at hSw); go_simp) <;> with_reducible rfl
                try simp only [Act.put, List.setIfInBounds_toArray, List.set_cons_zero, List.set_cons_succ]
                refine wpAnyH_take (i := 10) (oi := { dst := some 76, op := Go.Op.slice 34 (Go.Operand.tmp 75) none none none, type := 31, pos := "ppu.go:131", after := #[{ on := 9, ground := Go.Ground.data }], guard := none }) (v := ?v126) rfl (by kernel_rfl) (by kernel_rfl) (by kernel_rfl) (fun _ _ _ h => h) (Or.inl ⟨by rfl, ?y126⟩) (by assumption) ?z126
                case y126 => (intro w hSw; (try dsimp only at hSw); go_simp) <;> with_reducible rfl
                try simp only [Act.put, List.setIfInBounds_toArray, List.set_cons_zero, List.set_cons_succ]
                refine wpAnyH_take (i := 11) (oi := { dst := some 77, op := Go.Op.move (Go.Operand.tmp 5), type := 3, pos := "ppu.go:131", after := #[], guard := none }) (v := ?v127) rfl (by kernel_rfl) (by kernel_rfl) (by kernel_rfl) (fun _ _ _ h => h) (Or.inl ⟨by rfl, ?y127⟩) (by assumption) ?z127
                case y127 => (intro w hSw; (try dsimp only at hSw); go_simp) <;> with_reducible rfl
                try simp only [Act.put, List.setIfInBounds_toArray, List.set_cons_zero, List.set_cons_succ]
                refine wpAnyH_take (i := 12) (oi := { dst := some 78, op := Go.Op.load 34 (Go.Operand.tmp 6), type := 34, pos := "ppu.go:131", after := #[], guard := none }) (v := .agg (enc U)) rfl (by kernel_rfl) (by kernel_rfl) (by kernel_rfl) (fun _ _ _ h => h) (yields_load r34 (enc U) (enc_size _) zb (fun w hw => hw.2) (by rfl) _ rfl rfl) (by assumption) ?_
                try simp only [Act.put, List.setIfInBounds_toArray, List.set_cons_zero, List.set_cons_succ]
                refine wpAnyH_take (i := 14) (oi := { dst := some 80, op := Go.Op.nilCheck (Go.Operand.tmp 66), type := 0, pos := "ppu.go:131", after := #[{ on := 0, ground := Go.Ground.data }], guard := none }) (v := ?v129) rfl (by kernel_rfl) (by kernel_rfl) (by kernel_rfl) (fun _ _ _ h => h) (Or.inl ⟨by rfl, ?y129⟩) (by assumption) ?z129
                case y129 => (intro w hSw; (try dsimp only at hSw); go_simp) <;> with_reducible rfl
                try simp only [Act.put, List.setIfInBounds_toArray, List.set_cons_zero, List.set_cons_succ]
                refine wpAnyH_take (i := 15) (oi := { dst := some 81, op := Go.Op.fieldAddr 61 (Go.Operand.tmp 80) 7, type := 0, pos := "ppu.go:131", after := #[{ on := 14, ground := Go.Ground.data }], guard := none }) (v := ?v130) rfl (by kernel_rfl) (by kernel_rfl) (by kernel_rfl) (fun _ _ _ h => h) (Or.inl ⟨by rfl, ?y130⟩) (by assumption) ?z130
                case y130 => (intro w hSw; (try dsimp only at hSw); go_simp) <;> with_reducible rfl
                try simp only [Act.put, List.setIfInBounds_toArray, List.set_cons_zero, List.set_cons_succ]
                refine wpAnyH_ready (rs := [13]) (by kernel_rfl) (by simp) ?_
                refine (AllReadyH.cons (o := { dst := some 79, op := Go.Op.call { callee := Go.Callee.value (Go.Operand.func 58), args := #[Go.Operand.tmp 68, Go.Operand.tmp 72, Go.Operand.tmp 76, Go.Operand.tmp 77, Go.Operand.tmp 78], argTypes := #[81, 31, 31, 3, 34] }, type := 34, pos := "ppu.go:131", after := #[{ on := 2, ground := Go.Ground.data }, { on := 6, ground := Go.Ground.data }, { on := 10, ground := Go.Ground.data }, { on := 11, ground := Go.Ground.data }, { on := 12, ground := Go.Ground.data }], guard := none }) rfl (fun K hK => ?_) AllReadyH.nil)
                · skip
                  go_simp
                  with_reducible refine ((HLK.out _ (mem_vid P11.out HB.out) (mem_oam P11.out HB.out))).mono ?_
                  rintro q_ u12 ⟨rfl, hb⟩
                  have P12 := Lib.hid (P11.out.below hb)
                  have K12 := Lib.hid (K11.out.trans (Keeps.of_below hb))
                  have X12 := Lib.hid (X11.out.below hb)
                  have Y12 := Lib.hid (Y11.out.below hb)
                  have Z12 := Lib.hid (Z11.out.below hb)
                  clear hb
                  clear P11 K11 X11 Y11 Z11
                  refine hK.out _ _ ?s131 (fun hNew => ?r131)
                  case s131 => exact ⟨range_of_has Y12.out, range_of_has Z12.out⟩
                  clear hK K hHeld
                  have hHeld := hNew
                  clear hNew
                  refine wpAnyH_take (i := 16) (oi := { dst := some 82, op := Go.Op.indexAddr 35 (Go.Operand.tmp 81) (Go.Operand.tmp 67), type := 0, pos := "ppu.go:131", after := #[{ on := 15, ground := Go.Ground.data }, { on := 1, ground := Go.Ground.data }, { on := 0, ground := Go.Ground.phase }, { on := 1, ground := Go.Ground.phase }, { on := 2, ground := Go.Ground.phase }, { on := 3, ground := Go.Ground.phase }, { on := 4, ground := Go.Ground.phase }, { on := 5, ground := Go.Ground.phase }, { on := 6, ground := Go.Ground.phase }, { on := 7, ground := Go.Ground.phase }, { on := 8, ground := Go.Ground.phase }, { on := 9, ground := Go.Ground.phase }, { on := 10, ground := Go.Ground.phase }, { on := 11, ground := Go.Ground.phase }, { on := 12, ground := Go.Ground.phase }, { on := 13, ground := Go.Ground.phase }], guard := none }) (v := ?v132) rfl (by kernel_rfl) (by kernel_rfl) (by kernel_rfl) (fun _ _ _ h => h) (Or.inl ⟨by rfl, ?y132⟩) (by assumption) ?z132
                  case y132 => (intro w hSw; (try dsimp only at hSw); go_simp) <;> with_reducible rfl
                  try simp only [Act.put, List.setIfInBounds_toArray, List.set_cons_zero, List.set_cons_succ]
                  refine wpAnyH_ready (rs := [17]) (by kernel_rfl) (by simp) ?_
                  refine (AllReadyH.cons (o := { dst := none, op := Go.Op.store 34 (Go.Operand.tmp 82) (Go.Operand.tmp 79), type := 0, pos := "ppu.go:131", after := #[{ on := 16, ground := Go.Ground.data }, { on := 13, ground := Go.Ground.data }, { on := 13, ground := Go.Ground.chain }, { on := 0, ground := Go.Ground.phase }, { on := 1, ground := Go.Ground.phase }, { on := 2, ground := Go.Ground.phase }, { on := 3, ground := Go.Ground.phase }, { on := 4, ground := Go.Ground.phase }, { on := 5, ground := Go.Ground.phase }, { on := 6, ground := Go.Ground.phase }, { on := 7, ground := Go.Ground.phase }, { on := 8, ground := Go.Ground.phase }, { on := 9, ground := Go.Ground.phase }, { on := 10, ground := Go.Ground.phase }, { on := 11, ground := Go.Ground.phase }, { on := 12, ground := Go.Ground.phase }, { on := 13, ground := Go.Ground.phase }], guard := none }) rfl (fun K hK => ?_) AllReadyH.nil)
                  · skip
                    refine wp_store_row P12.out R _ _ rfl (8367 + n * 160) rfl rfl (by omega) (by omega) ?_
                    intro u13 hP hk
                    try simp only [Act.put, List.setIfInBounds_toArray, List.set_cons_zero, List.set_cons_succ]
                    have P13 := Lib.hid hP
                    have K13 := Lib.hid (K12.out.trans hk)
                    have X13 := Lib.hid (hk.has (Ne.symm NX.out) X12.out)
                    have Y13 := Lib.hid (hk.has (Ne.symm NY.out) Y12.out)
                    have Z13 := Lib.hid (hk.has (Ne.symm NZ.out) Z12.out)
                    clear hP hk
                    clear P12 K12 X12 Y12 Z12
                    refine hK.out _ _ ?s133 (fun hNew => ?r133)
                    case s133 => exact ⟨range_of_has Y13.out, range_of_has Z13.out⟩
                    clear hK K hHeld
                    have hHeld := hNew
                    clear hNew
                    refine wpAnyH_done (by kernel_rfl) ?_ _
                    clear hHeld
                    obtain ⟨hc, hf⟩ := P13.out.out
                    have e_ow : (encU (row m (8367 + n * 160) 160 R))[8364]? = some (.int .u8 ow) := (encU_u _ 8364 (by decide) (by decide) (by decide)).trans (congrArg (fun x => some (Value.int .u8 x)) ((row_out _ _ _ _ _ (by omega)).trans How.out))
                    have hw : IntKind.u8.wrap (ow + 1) = ow + 1 := by rw [IntKind.wrap_u8]; omega
                    go_wp2_with (refine ust_u P13.out rfl _ _ rfl _ rfl _ rfl (by omega) (by omega) (by omega) ?_)
                    intro u14 hP hk
                    clear hc hf e_ow
                    replace hP : Has u14 b (encU (upd (row m (8367 + n * 160) 160 R) 8364 (ow + 1))) := hP
                    have P14 := Lib.hid hP
                    have K14 := Lib.hid (K13.out.trans hk)
                    clear hP hk P13 K13
                    try simp only [Act.put]
                    go_wp2
                    all_goals first | exact bodyPost_ret (v := .tuple #[]) (by simp [results, Try.results44, go_sem]) rfl ⟨rfl, P14.out, K14.out⟩ | exact bodyPost_end (v := .tuple #[]) (by simp [results, Try.results44, go_sem]) rfl ⟨rfl, P14.out, K14.out⟩
set_option maxHeartbeats 8000000 in
theorem ren_0 (b : Nat) (m : M) (c : Int) (hc : m 8352 = c) (c0 : 0 ≤ c) (c1 : c < 256) (sy : Int) (hsy : m 8354 = sy) (sy0 : 0 ≤ sy) (sy1 : sy < 256) (sx : Int) (hsx : m 8355 = sx) (sx0 : 0 ≤ sx) (sx1 : sx < 256) (bk : Int) (hbk : m 8358 = bk) (bk0 : 0 ≤ bk) (bk1 : bk < 256) (fi : Int) (hfi : m 8359 = fi) (fi0 : 0 ≤ fi) (fi1 : fi < 256) (se : Int) (hse : m 8360 = se) (se0 : 0 ≤ se) (se1 : se < 256) (wy : Int) (hwy : m 8361 = wy) (wy0 : 0 ≤ wy) (wy1 : wy < 256) (wx : Int) (hwx : m 8362 = wx) (wx0 : 0 ≤ wx) (wx1 : wx < 256) (ow : Int) (how : m 8364 = ow) (ow0 : 0 ≤ ow) (ow1 : ow < 256)  (B : ∀ o, o < 31407 → o ≠ 8365 → 0 ≤ m o ∧ m o < 256) (n : Nat) (hL : m 8356 = n) (n1 : n < 144) (hs : seenV c wx wy n = false) (U : M) (hU : lineE (vid m) c sx sy wx wy n ow = U) (R : M) (hR : firstN (outV c bk fi se (vid m) (oam m) n U) 160 = R) (okU : okB U) (ow2 : ow < 255) (w : World) (h : Has w b (encU m)) : Calls Try.prog 44 #[.pointer (some ⟨b, 0, none⟩)] w fun q_ w' => q_ = .returned (.tuple #[]) ∧ Has w' b (encU (row m (8367 + n * 160) 160 R)) ∧ Keeps b w w' := by
  suffices hall : ∀ w0 : World, Keeps b w0 w → Calls Try.prog 44 #[.pointer (some ⟨b, 0, none⟩)] w fun q_ w' => q_ = .returned (.tuple #[]) ∧ Has w' b (encU (row m (8367 + n * 160) 160 R)) ∧ Keeps b w0 w' from hall w (Keeps.refl b w)
  intro w0 hK
  have P0 := Lib.hid h
  have K0 := Lib.hid hK
  clear h hK
  have Hc := Lib.hid hc
  clear hc
  have Hsy := Lib.hid hsy
  clear hsy
  have Hsx := Lib.hid hsx
  clear hsx
  have Hbk := Lib.hid hbk
  clear hbk
  have Hfi := Lib.hid hfi
  clear hfi
  have Hse := Lib.hid hse
  clear hse
  have Hwy := Lib.hid hwy
  clear hwy
  have Hwx := Lib.hid hwx
  clear hwx
  have How := Lib.hid how
  clear how
  have HB := Lib.hid B
  have HL := Lib.hid hL
  have HS := Lib.hid hs
  have HU := Lib.hid hU
  have HR := Lib.hid hR
  have OU := Lib.hid okU
  clear B hL hs hU hR okU
  have n2 : (n : Int) < 144 := by omega
  have w64 : IntKind.i64.wrap ow = ow := by rw [IntKind.wrap_i64]; omega
  have HLN := Lib.hid (show ∀ W, Mem W (.slice (some ⟨b, 0, none⟩) 8192 8192) (vid m) → Calls Try.prog 57 #[.agg #[.int .u8 c, .int .u8 sx, .int .u8 sy, .int .u8 wx, .int .u8 wy], .slice (some ⟨b, 0, none⟩) 8192 8192, .int .i64 (n : Int), .int .i64 ow] W fun q_ w' => q_ = .returned (.tuple #[.agg (enc U), .bool false]) ∧ Below W.heap.size W w' from fun W hM => by
    have q := line_c c sx sy wx wy c0 c1 sx0 sx1 sy0 sy1 wx0 wx1 wy0 wy1 _ _ (n : Int) ow (by omega) (by omega) (by omega) (by omega) W hM
    rw [HU.out, HS.out] at q
    exact q)
  have HLK := Lib.hid (show ∀ W, Mem W (.slice (some ⟨b, 0, none⟩) 8192 8192) (vid m) → Mem W (.slice (some ⟨b, 8192, none⟩) 160 160) (oam m) → Calls Try.prog 58 #[.agg #[.int .u8 c, .int .u8 bk, .int .u8 fi, .int .u8 se], .slice (some ⟨b, 0, none⟩) 8192 8192, .slice (some ⟨b, 8192, none⟩) 160 160, .int .i64 (n : Int), .agg (enc U)] W fun q_ w' => q_ = .returned (.agg (enc R)) ∧ Below W.heap.size W w' from fun W hM hM2 => by
    have q := linep_c c bk fi se c0 c1 bk0 bk1 fi0 fi1 se0 se1 _ _ _ _ U OU.out (n : Int) (by omega) (by omega) W hM hM2
    rw [HR.out] at q
    exact q)
  go_enter Try.func44, Try.ntmps44
  go_upto_region 1 with (fail)
  have P1 := Lib.hid P0.out.drew
  have K1 := Lib.hid (K0.out.drew)
  clear P0 K0
  have e_c : (encU (m))[8352]? = some (.int .u8 c) := (encU_u _ 8352 (by decide) (by decide) (by decide)).trans (congrArg (fun x => some (Value.int .u8 x)) (Hc.out))
  have e_sy : (encU (m))[8354]? = some (.int .u8 sy) := (encU_u _ 8354 (by decide) (by decide) (by decide)).trans (congrArg (fun x => some (Value.int .u8 x)) (Hsy.out))
  have e_sx : (encU (m))[8355]? = some (.int .u8 sx) := (encU_u _ 8355 (by decide) (by decide) (by decide)).trans (congrArg (fun x => some (Value.int .u8 x)) (Hsx.out))
  have e_wy : (encU (m))[8361]? = some (.int .u8 wy) := (encU_u _ 8361 (by decide) (by decide) (by decide)).trans (congrArg (fun x => some (Value.int .u8 x)) (Hwy.out))
  have e_wx : (encU (m))[8362]? = some (.int .u8 wx) := (encU_u _ 8362 (by decide) (by decide) (by decide)).trans (congrArg (fun x => some (Value.int .u8 x)) (Hwx.out))
  refine wp_region_held_drew (S := (fun w' => (∀ o, w'.cell? ⟨b, o, none⟩ = (encU m)[o]?))) (by kernel_rfl) P1.out.2.1 (fun hHeld => ?_)
  generalize World.drew _ = u1 at hHeld P1 K1 ⊢
  refine wpAnyH_take (i := 0) (oi := { dst := some 11, op := Go.Op.move (Go.Operand.tmp 2), type := 79, pos := "ppu.go:123", after := #[], guard := none }) (v := ?v134) rfl (by kernel_rfl) (by kernel_rfl) (by kernel_rfl) (fun _ _ _ h => h) (Or.inl ⟨by rfl, ?y134⟩) (by assumption) ?z134
  case y134 => (intro w hSw; (try dsimp only at hSw); go_simp) <;> with_reducible rfl
  try simp only [Act.put, List.setIfInBounds_toArray, List.set_cons_zero, List.set_cons_succ]
  refine wpAnyH_take (i := 1) (oi := { dst := some 12, op := Go.Op.nilCheck (Go.Operand.tmp 11), type := 0, pos := "ppu.go:123", after := #[{ on := 0, ground := Go.Ground.data }], guard := none }) (v := ?v135) rfl (by kernel_rfl) (by kernel_rfl) (by kernel_rfl) (fun _ _ _ h => h) (Or.inl ⟨by rfl, ?y135⟩) (by assumption) ?z135
  case y135 => (intro w hSw; (try dsimp only at hSw); go_simp) <;> with_reducible rfl
  try simp only [Act.put, List.setIfInBounds_toArray, List.set_cons_zero, List.set_cons_succ]
  refine wpAnyH_take (i := 2) (oi := { dst := some 13, op := Go.Op.indexAddr 59 (Go.Operand.tmp 12) (Go.Operand.const (Go.Value.int Go.IntKind.i64 0)), type := 0, pos := "ppu.go:123", after := #[{ on := 1, ground := Go.Ground.data }], guard := none }) (v := ?v136) rfl (by kernel_rfl) (by kernel_rfl) (by kernel_rfl) (fun _ _ _ h => h) (Or.inl ⟨by rfl, ?y136⟩) (by assumption) ?z136
  case y136 => (intro w hSw; (try dsimp only at hSw); go_simp) <;> with_reducible rfl
  try simp only [Act.put, List.setIfInBounds_toArray, List.set_cons_zero, List.set_cons_succ]
  refine wpAnyH_take (i := 3) (oi := { dst := some 14, op := Go.Op.load 5 (Go.Operand.tmp 13), type := 5, pos := "ppu.go:123", after := #[{ on := 2, ground := Go.Ground.data }], guard := none }) (v := ?v137) rfl (by kernel_rfl) (by kernel_rfl) (by kernel_rfl) (fun _ _ _ h => h) (Or.inl ⟨by rfl, ?y137⟩) (by assumption) ?z137
  case y137 => (intro w hSw; (try dsimp only at hSw); go_simp) <;> with_reducible rfl
  try simp only [Act.put, List.setIfInBounds_toArray, List.set_cons_zero, List.set_cons_succ]
  refine wpAnyH_take (i := 4) (oi := { dst := some 15, op := Go.Op.move (Go.Operand.tmp 2), type := 79, pos := "ppu.go:123", after := #[], guard := none }) (v := ?v138) rfl (by kernel_rfl) (by kernel_rfl) (by kernel_rfl) (fun _ _ _ h => h) (Or.inl ⟨by rfl, ?y138⟩) (by assumption) ?z138
  case y138 => (intro w hSw; (try dsimp only at hSw); go_simp) <;> with_reducible rfl
  try simp only [Act.put, List.setIfInBounds_toArray, List.set_cons_zero, List.set_cons_succ]
  refine wpAnyH_take (i := 5) (oi := { dst := some 16, op := Go.Op.nilCheck (Go.Operand.tmp 15), type := 0, pos := "ppu.go:123", after := #[{ on := 4, ground := Go.Ground.data }], guard := none }) (v := ?v139) rfl (by kernel_rfl) (by kernel_rfl) (by kernel_rfl) (fun _ _ _ h => h) (Or.inl ⟨by rfl, ?y139⟩) (by assumption) ?z139
  case y139 => (intro w hSw; (try dsimp only at hSw); go_simp) <;> with_reducible rfl
  try simp only [Act.put, List.setIfInBounds_toArray, List.set_cons_zero, List.set_cons_succ]
  refine wpAnyH_take (i := 6) (oi := { dst := some 17, op := Go.Op.indexAddr 59 (Go.Operand.tmp 16) (Go.Operand.const (Go.Value.int Go.IntKind.i64 3)), type := 0, pos := "ppu.go:123", after := #[{ on := 5, ground := Go.Ground.data }], guard := none }) (v := ?v140) rfl (by kernel_rfl) (by kernel_rfl) (by kernel_rfl) (fun _ _ _ h => h) (Or.inl ⟨by rfl, ?y140⟩) (by assumption) ?z140
  case y140 => (intro w hSw; (try dsimp only at hSw); go_simp) <;> with_reducible rfl
  try simp only [Act.put, List.setIfInBounds_toArray, List.set_cons_zero, List.set_cons_succ]
  refine wpAnyH_take (i := 7) (oi := { dst := some 18, op := Go.Op.load 5 (Go.Operand.tmp 17), type := 5, pos := "ppu.go:123", after := #[{ on := 6, ground := Go.Ground.data }], guard := none }) (v := ?v141) rfl (by kernel_rfl) (by kernel_rfl) (by kernel_rfl) (fun _ _ _ h => h) (Or.inl ⟨by rfl, ?y141⟩) (by assumption) ?z141
  case y141 => (intro w hSw; (try dsimp only at hSw); go_simp) <;> with_reducible rfl
  try simp only [Act.put, List.setIfInBounds_toArray, List.set_cons_zero, List.set_cons_succ]
  refine wpAnyH_take (i := 8) (oi := { dst := some 19, op := Go.Op.move (Go.Operand.tmp 2), type := 79, pos := "ppu.go:123", after := #[], guard := none }) (v := ?v142) rfl (by kernel_rfl) (by kernel_rfl) (by kernel_rfl) (fun _ _ _ h => h) (Or.inl ⟨by rfl, ?y142⟩) (by assumption) ?z142
  case y142 => (intro w hSw; (try dsimp only at hSw); go_simp) <;> with_reducible rfl
  try simp only [Act.put, List.setIfInBounds_toArray, List.set_cons_zero, List.set_cons_succ]
  refine wpAnyH_take (i := 9) (oi := { dst := some 20, op := Go.Op.nilCheck (Go.Operand.tmp 19), type := 0, pos := "ppu.go:123", after := #[{ on := 8, ground := Go.Ground.data }], guard := none }) (v := ?v143) rfl (by kernel_rfl) (by kernel_rfl) (by kernel_rfl) (fun _ _ _ h => h) (Or.inl ⟨by rfl, ?y143⟩) (by assumption) ?z143
  case y143 => (intro w hSw; (try dsimp only at hSw); go_simp) <;> with_reducible rfl
  try simp only [Act.put, List.setIfInBounds_toArray, List.set_cons_zero, List.set_cons_succ]
  refine wpAnyH_take (i := 10) (oi := { dst := some 21, op := Go.Op.indexAddr 59 (Go.Operand.tmp 20) (Go.Operand.const (Go.Value.int Go.IntKind.i64 2)), type := 0, pos := "ppu.go:123", after := #[{ on := 9, ground := Go.Ground.data }], guard := none }) (v := ?v144) rfl (by kernel_rfl) (by kernel_rfl) (by kernel_rfl) (fun _ _ _ h => h) (Or.inl ⟨by rfl, ?y144⟩) (by assumption) ?z144
  case y144 => (intro w hSw; (try dsimp only at hSw); go_simp) <;> with_reducible rfl
  try simp only [Act.put, List.setIfInBounds_toArray, List.set_cons_zero, List.set_cons_succ]
  refine wpAnyH_take (i := 11) (oi := { dst := some 22, op := Go.Op.load 5 (Go.Operand.tmp 21), type := 5, pos := "ppu.go:123", after := #[{ on := 10, ground := Go.Ground.data }], guard := none }) (v := ?v145) rfl (by kernel_rfl) (by kernel_rfl) (by kernel_rfl) (fun _ _ _ h => h) (Or.inl ⟨by rfl, ?y145⟩) (by assumption) ?z145
  case y145 => (intro w hSw; (try dsimp only at hSw); go_simp) <;> with_reducible rfl
  try simp only [Act.put, List.setIfInBounds_toArray, List.set_cons_zero, List.set_cons_succ]
  refine wpAnyH_take (i := 12) (oi := { dst := some 23, op := Go.Op.move (Go.Operand.tmp 2), type := 79, pos := "ppu.go:123", after := #[], guard := none }) (v := ?v146) rfl (by kernel_rfl) (by kernel_rfl) (by kernel_rfl) (fun _ _ _ h => h) (Or.inl ⟨by rfl, ?y146⟩) (by assumption) ?z146
  case y146 => (intro w hSw; (try dsimp only at hSw); go_simp) <;> with_reducible rfl
  try simp only [Act.put, List.setIfInBounds_toArray, List.set_cons_zero, List.set_cons_succ]
  refine wpAnyH_take (i := 13) (oi := { dst := some 24, op := Go.Op.nilCheck (Go.Operand.tmp 23), type := 0, pos := "ppu.go:123", after := #[{ on := 12, ground := Go.Ground.data }], guard := none }) (v := ?v147) rfl (by kernel_rfl) (by kernel_rfl) (by kernel_rfl) (fun _ _ _ h => h) (Or.inl ⟨by rfl, ?y147⟩) (by assumption) ?z147
  case y147 => (intro w hSw; (try dsimp only at hSw); go_simp) <;> with_reducible rfl
  try simp only [Act.put, List.setIfInBounds_toArray, List.set_cons_zero, List.set_cons_succ]
  refine wpAnyH_take (i := 14) (oi := { dst := some 25, op := Go.Op.indexAddr 59 (Go.Operand.tmp 24) (Go.Operand.const (Go.Value.int Go.IntKind.i64 10)), type := 0, pos := "ppu.go:123", after := #[{ on := 13, ground := Go.Ground.data }], guard := none }) (v := ?v148) rfl (by kernel_rfl) (by kernel_rfl) (by kernel_rfl) (fun _ _ _ h => h) (Or.inl ⟨by rfl, ?y148⟩) (by assumption) ?z148
  case y148 => (intro w hSw; (try dsimp only at hSw); go_simp) <;> with_reducible rfl
  try simp only [Act.put, List.setIfInBounds_toArray, List.set_cons_zero, List.set_cons_succ]
  refine wpAnyH_take (i := 15) (oi := { dst := some 26, op := Go.Op.load 5 (Go.Operand.tmp 25), type := 5, pos := "ppu.go:123", after := #[{ on := 14, ground := Go.Ground.data }], guard := none }) (v := ?v149) rfl (by kernel_rfl) (by kernel_rfl) (by kernel_rfl) (fun _ _ _ h => h) (Or.inl ⟨by rfl, ?y149⟩) (by assumption) ?z149
  case y149 => (intro w hSw; (try dsimp only at hSw); go_simp) <;> with_reducible rfl
  try simp only [Act.put, List.setIfInBounds_toArray, List.set_cons_zero, List.set_cons_succ]
  refine wpAnyH_take (i := 16) (oi := { dst := some 27, op := Go.Op.move (Go.Operand.tmp 2), type := 79, pos := "ppu.go:123", after := #[], guard := none }) (v := ?v150) rfl (by kernel_rfl) (by kernel_rfl) (by kernel_rfl) (fun _ _ _ h => h) (Or.inl ⟨by rfl, ?y150⟩) (by assumption) ?z150
  case y150 => (intro w hSw; (try dsimp only at hSw); go_simp) <;> with_reducible rfl
  try simp only [Act.put, List.setIfInBounds_toArray, List.set_cons_zero, List.set_cons_succ]
  refine wpAnyH_take (i := 17) (oi := { dst := some 28, op := Go.Op.nilCheck (Go.Operand.tmp 27), type := 0, pos := "ppu.go:123", after := #[{ on := 16, ground := Go.Ground.data }], guard := none }) (v := ?v151) rfl (by kernel_rfl) (by kernel_rfl) (by kernel_rfl) (fun _ _ _ h => h) (Or.inl ⟨by rfl, ?y151⟩) (by assumption) ?z151
  case y151 => (intro w hSw; (try dsimp only at hSw); go_simp) <;> with_reducible rfl
  try simp only [Act.put, List.setIfInBounds_toArray, List.set_cons_zero, List.set_cons_succ]
  refine wpAnyH_take (i := 18) (oi := { dst := some 29, op := Go.Op.indexAddr 59 (Go.Operand.tmp 28) (Go.Operand.const (Go.Value.int Go.IntKind.i64 9)), type := 0, pos := "ppu.go:123", after := #[{ on := 17, ground := Go.Ground.data }], guard := none }) (v := ?v152) rfl (by kernel_rfl) (by kernel_rfl) (by kernel_rfl) (fun _ _ _ h => h) (Or.inl ⟨by rfl, ?y152⟩) (by assumption) ?z152
  case y152 => (intro w hSw; (try dsimp only at hSw); go_simp) <;> with_reducible rfl
  try simp only [Act.put, List.setIfInBounds_toArray, List.set_cons_zero, List.set_cons_succ]
  refine wpAnyH_take (i := 19) (oi := { dst := some 30, op := Go.Op.load 5 (Go.Operand.tmp 29), type := 5, pos := "ppu.go:123", after := #[{ on := 18, ground := Go.Ground.data }], guard := none }) (v := ?v153) rfl (by kernel_rfl) (by kernel_rfl) (by kernel_rfl) (fun _ _ _ h => h) (Or.inl ⟨by rfl, ?y153⟩) (by assumption) ?z153
  case y153 => (intro w hSw; (try dsimp only at hSw); go_simp) <;> with_reducible rfl
  try simp only [Act.put, List.setIfInBounds_toArray, List.set_cons_zero, List.set_cons_succ]
  refine wpAnyH_take (i := 20) (oi := { dst := some 31, op := Go.Op.build 80 #[(0, Go.Operand.tmp 14), (1, Go.Operand.tmp 18), (2, Go.Operand.tmp 22), (3, Go.Operand.tmp 26), (4, Go.Operand.tmp 30)], type := 80, pos := "ppu.go:123", after := #[{ on := 3, ground := Go.Ground.data }, { on := 7, ground := Go.Ground.data }, { on := 11, ground := Go.Ground.data }, { on := 15, ground := Go.Ground.data }, { on := 19, ground := Go.Ground.data }], guard := none }) (v := ?v154) rfl (by kernel_rfl) (by kernel_rfl) (by kernel_rfl) (fun _ _ _ h => h) (Or.inl ⟨by rfl, ?y154⟩) (by assumption) ?z154
  case y154 => (intro w hSw; (try dsimp only at hSw); go_simp) <;> with_reducible rfl
  try simp only [Act.put, List.setIfInBounds_toArray, List.set_cons_zero, List.set_cons_succ]
  refine wpAnyH_ready (rs := [21]) (by kernel_rfl) (by simp) ?_
  refine (AllReadyH.cons (o := { dst := some 3, op := Go.Op.alloc 80, type := 0, pos := "ppu.go:123", after := #[], guard := none }) rfl (fun K hK => ?_) AllReadyH.nil)
  · skip
    go_simp
    have Q_ := own1 u1 (.cells #[.int .u8 0, .int .u8 0, .int .u8 0, .int .u8 0, .int .u8 0] 80)
    have P2 := Lib.hid (P1.out.below Q_)
    have K2 := Lib.hid (K1.out.trans (Keeps.of_below Q_))
    have X2 := Lib.hid (Has.new u1 #[.int .u8 0, .int .u8 0, .int .u8 0, .int .u8 0, .int .u8 0] 80)
    have LX := Lib.hid (K1.out.size)
    have NX := Lib.hid (Nat.ne_of_lt P1.out.1)
    clear Q_
    clear P1 K1
    generalize u1.alloc (.cells #[.int .u8 0, .int .u8 0, .int .u8 0, .int .u8 0, .int .u8 0] 80) = u2 at P2 K2 X2 ⊢
    generalize u1.heap.size = xb at X2 LX NX  ⊢
    refine hK.out _ _ ?s155 (fun hNew => ?r155)
    case s155 => exact P2.out.2.1
    clear hK K hHeld
    have hHeld := hNew
    clear hNew
    refine wpAnyH_ready (rs := [22]) (by kernel_rfl) (by simp) ?_
    refine (AllReadyH.cons (o := { dst := none, op := Go.Op.store 80 (Go.Operand.tmp 3) (Go.Operand.tmp 31), type := 0, pos := "ppu.go:123", after := #[{ on := 21, ground := Go.Ground.data }, { on := 20, ground := Go.Ground.data }, { on := 0, ground := Go.Ground.phase }, { on := 1, ground := Go.Ground.phase }, { on := 2, ground := Go.Ground.phase }, { on := 3, ground := Go.Ground.phase }, { on := 4, ground := Go.Ground.phase }, { on := 5, ground := Go.Ground.phase }, { on := 6, ground := Go.Ground.phase }, { on := 7, ground := Go.Ground.phase }, { on := 8, ground := Go.Ground.phase }, { on := 9, ground := Go.Ground.phase }, { on := 10, ground := Go.Ground.phase }, { on := 11, ground := Go.Ground.phase }, { on := 12, ground := Go.Ground.phase }, { on := 13, ground := Go.Ground.phase }, { on := 14, ground := Go.Ground.phase }, { on := 15, ground := Go.Ground.phase }, { on := 16, ground := Go.Ground.phase }, { on := 17, ground := Go.Ground.phase }, { on := 18, ground := Go.Ground.phase }, { on := 19, ground := Go.Ground.phase }, { on := 20, ground := Go.Ground.phase }, { on := 21, ground := Go.Ground.phase }], guard := none }) rfl (fun K hK => ?_) AllReadyH.nil)
    · skip
      refine wp_store_g r80 X2.out rfl #[.int .u8 c, .int .u8 sx, .int .u8 sy, .int .u8 wx, .int .u8 wy] rfl (five_one _ _ _ _ _) _ _ rfl rfl rfl ?_
      intro u3 hP hk
      try simp only [Act.put, List.setIfInBounds_toArray, List.set_cons_zero, List.set_cons_succ]
      have X3 := Lib.hid hP
      have K3 := Lib.hid (keeps_new K2.out LX.out hk)
      have P3 := Lib.hid (hk.has NX.out P2.out)
      clear hP hk
      clear P2 K2 X2
      refine hK.out _ _ ?s156 (fun hNew => ?r156)
      case s156 => exact P3.out.2.1
      clear hK K hHeld
      have hHeld := hNew
      clear hNew
      refine wpAnyH_done (by kernel_rfl) ?_ _
      clear hHeld
      clear e_c e_sx e_sy e_wx e_wy
      go_upto_region 2 with (fail)
      have P4 := Lib.hid P3.out.drew
      have X4 := Lib.hid X3.out.drew
      have K4 := Lib.hid (K3.out.drew)
      clear P3 K3 X3
      have e_c : (encU (m))[8352]? = some (.int .u8 c) := (encU_u _ 8352 (by decide) (by decide) (by decide)).trans (congrArg (fun x => some (Value.int .u8 x)) (Hc.out))
      have e_bk : (encU (m))[8358]? = some (.int .u8 bk) := (encU_u _ 8358 (by decide) (by decide) (by decide)).trans (congrArg (fun x => some (Value.int .u8 x)) (Hbk.out))
      have e_fi : (encU (m))[8359]? = some (.int .u8 fi) := (encU_u _ 8359 (by decide) (by decide) (by decide)).trans (congrArg (fun x => some (Value.int .u8 x)) (Hfi.out))
      have e_se : (encU (m))[8360]? = some (.int .u8 se) := (encU_u _ 8360 (by decide) (by decide) (by decide)).trans (congrArg (fun x => some (Value.int .u8 x)) (Hse.out))
      refine wp_region_held_drew (S := (fun w' => (∀ o, w'.cell? ⟨b, o, none⟩ = (encU m)[o]?))) (by kernel_rfl) P4.out.2.1 (fun hHeld => ?_)
      generalize World.drew _ = u4 at hHeld P4 K4 X4 ⊢
      refine wpAnyH_take (i := 0) (oi := { dst := some 32, op := Go.Op.move (Go.Operand.tmp 2), type := 79, pos := "ppu.go:128", after := #[], guard := none }) (v := ?v157) rfl (by kernel_rfl) (by kernel_rfl) (by kernel_rfl) (fun _ _ _ h => h) (Or.inl ⟨by rfl, ?y157⟩) (by assumption) ?z157
      case y157 => (intro w hSw; (try dsimp only at hSw); go_simp) <;> with_reducible rfl
      try simp only [Act.put, List.setIfInBounds_toArray, List.set_cons_zero, List.set_cons_succ]
      refine wpAnyH_take (i := 1) (oi := { dst := some 33, op := Go.Op.nilCheck (Go.Operand.tmp 32), type := 0, pos := "ppu.go:128", after := #[{ on := 0, ground := Go.Ground.data }], guard := none }) (v := ?v158) rfl (by kernel_rfl) (by kernel_rfl) (by kernel_rfl) (fun _ _ _ h => h) (Or.inl ⟨by rfl, ?y158⟩) (by assumption) ?z158
      case y158 => (intro w hSw; (try dsimp only at hSw); go_simp) <;> with_reducible rfl
      try simp only [Act.put, List.setIfInBounds_toArray, List.set_cons_zero, List.set_cons_succ]
      refine wpAnyH_take (i := 2) (oi := { dst := some 34, op := Go.Op.indexAddr 59 (Go.Operand.tmp 33) (Go.Operand.const (Go.Value.int Go.IntKind.i64 0)), type := 0, pos := "ppu.go:128", after := #[{ on := 1, ground := Go.Ground.data }], guard := none }) (v := ?v159) rfl (by kernel_rfl) (by kernel_rfl) (by kernel_rfl) (fun _ _ _ h => h) (Or.inl ⟨by rfl, ?y159⟩) (by assumption) ?z159
      case y159 => (intro w hSw; (try dsimp only at hSw); go_simp) <;> with_reducible rfl
      try simp only [Act.put, List.setIfInBounds_toArray, List.set_cons_zero, List.set_cons_succ]
      refine wpAnyH_take (i := 3) (oi := { dst := some 35, op := Go.Op.load 5 (Go.Operand.tmp 34), type := 5, pos := "ppu.go:128", after := #[{ on := 2, ground := Go.Ground.data }], guard := none }) (v := ?v160) rfl (by kernel_rfl) (by kernel_rfl) (by kernel_rfl) (fun _ _ _ h => h) (Or.inl ⟨by rfl, ?y160⟩) (by assumption) ?z160
      case y160 => (intro w hSw; (try dsimp only at hSw); go_simp) <;> with_reducible rfl
      try simp only [Act.put, List.setIfInBounds_toArray, List.set_cons_zero, List.set_cons_succ]
      refine wpAnyH_take (i := 4) (oi := { dst := some 36, op := Go.Op.move (Go.Operand.tmp 2), type := 79, pos := "ppu.go:128", after := #[], guard := none }) (v := ?v161) rfl (by kernel_rfl) (by kernel_rfl) (by kernel_rfl) (fun _ _ _ h => h) (Or.inl ⟨by rfl, ?y161⟩) (by assumption) ?z161
      case y161 => (intro w hSw; (try dsimp only at hSw); go_simp) <;> with_reducible rfl
      try simp only [Act.put, List.setIfInBounds_toArray, List.set_cons_zero, List.set_cons_succ]
      refine wpAnyH_take (i := 5) (oi := { dst := some 37, op := Go.Op.nilCheck (Go.Operand.tmp 36), type := 0, pos := "ppu.go:128", after := #[{ on := 4, ground := Go.Ground.data }], guard := none }) (v := ?v162) rfl (by kernel_rfl) (by kernel_rfl) (by kernel_rfl) (fun _ _ _ h => h) (Or.inl ⟨by rfl, ?y162⟩) (by assumption) ?z162
      case y162 => (intro w hSw; (try dsimp only at hSw); go_simp) <;> with_reducible rfl
      try simp only [Act.put, List.setIfInBounds_toArray, List.set_cons_zero, List.set_cons_succ]
      refine wpAnyH_take (i := 6) (oi := { dst := some 38, op := Go.Op.indexAddr 59 (Go.Operand.tmp 37) (Go.Operand.const (Go.Value.int Go.IntKind.i64 6)), type := 0, pos := "ppu.go:128", after := #[{ on := 5, ground := Go.Ground.data }], guard := none }) (v := ?v163) rfl (by kernel_rfl) (by kernel_rfl) (by kernel_rfl) (fun _ _ _ h => h) (Or.inl ⟨by rfl, ?y163⟩) (by assumption) ?z163
      case y163 => (intro w hSw; (try dsimp only at hSw); go_simp) <;> with_reducible rfl
      try simp only [Act.put, List.setIfInBounds_toArray, List.set_cons_zero, List.set_cons_succ]
      refine wpAnyH_take (i := 7) (oi := { dst := some 39, op := Go.Op.load 5 (Go.Operand.tmp 38), type := 5, pos := "ppu.go:128", after := #[{ on := 6, ground := Go.Ground.data }], guard := none }) (v := ?v164) rfl (by kernel_rfl) (by kernel_rfl) (by kernel_rfl) (fun _ _ _ h => h) (Or.inl ⟨by rfl, ?y164⟩) (by assumption) ?z164
      case y164 => (intro w hSw; (try dsimp only at hSw); go_simp) <;> with_reducible rfl
      try simp only [Act.put, List.setIfInBounds_toArray, List.set_cons_zero, List.set_cons_succ]
      refine wpAnyH_take (i := 8) (oi := { dst := some 40, op := Go.Op.move (Go.Operand.tmp 2), type := 79, pos := "ppu.go:128", after := #[], guard := none }) (v := ?v165) rfl (by kernel_rfl) (by kernel_rfl) (by kernel_rfl) (fun _ _ _ h => h) (Or.inl ⟨by rfl, ?y165⟩) (by assumption) ?z165
      case y165 => (intro w hSw; (try dsimp only at hSw); go_simp) <;> with_reducible rfl
      try simp only [Act.put, List.setIfInBounds_toArray, List.set_cons_zero, List.set_cons_succ]
      refine wpAnyH_take (i := 9) (oi := { dst := some 41, op := Go.Op.nilCheck (Go.Operand.tmp 40), type := 0, pos := "ppu.go:128", after := #[{ on := 8, ground := Go.Ground.data }], guard := none }) (v := ?v166) rfl (by kernel_rfl) (by kernel_rfl) (by kernel_rfl) (fun _ _ _ h => h) (Or.inl ⟨by rfl, ?y166⟩) (by assumption) ?z166
      case y166 => (intro w hSw; (try dsimp only at hSw); go_simp) <;> with_reducible rfl
      try simp only [Act.put, List.setIfInBounds_toArray, List.set_cons_zero, List.set_cons_succ]
      refine wpAnyH_take (i := 10) (oi := { dst := some 42, op := Go.Op.indexAddr 59 (Go.Operand.tmp 41) (Go.Operand.const (Go.Value.int Go.IntKind.i64 7)), type := 0, pos := "ppu.go:128", after := #[{ on := 9, ground := Go.Ground.data }], guard := none }) (v := ?v167) rfl (by kernel_rfl) (by kernel_rfl) (by kernel_rfl) (fun _ _ _ h => h) (Or.inl ⟨by rfl, ?y167⟩) (by assumption) ?z167
      case y167 => (intro w hSw; (try dsimp only at hSw); go_simp) <;> with_reducible rfl
      try simp only [Act.put, List.setIfInBounds_toArray, List.set_cons_zero, List.set_cons_succ]
      refine wpAnyH_take (i := 11) (oi := { dst := some 43, op := Go.Op.load 5 (Go.Operand.tmp 42), type := 5, pos := "ppu.go:128", after := #[{ on := 10, ground := Go.Ground.data }], guard := none }) (v := ?v168) rfl (by kernel_rfl) (by kernel_rfl) (by kernel_rfl) (fun _ _ _ h => h) (Or.inl ⟨by rfl, ?y168⟩) (by assumption) ?z168
      case y168 => (intro w hSw; (try dsimp only at hSw); go_simp) <;> with_reducible rfl
      try simp only [Act.put, List.setIfInBounds_toArray, List.set_cons_zero, List.set_cons_succ]
      refine wpAnyH_take (i := 12) (oi := { dst := some 44, op := Go.Op.move (Go.Operand.tmp 2), type := 79, pos := "ppu.go:128", after := #[], guard := none }) (v := ?v169) rfl (by kernel_rfl) (by kernel_rfl) (by kernel_rfl) (fun _ _ _ h => h) (Or.inl ⟨by rfl, ?y169⟩) (by assumption) ?z169
      case y169 => (intro w hSw; (try dsimp only at hSw); go_simp) <;> with_reducible rfl
      try simp only [Act.put, List.setIfInBounds_toArray, List.set_cons_zero, List.set_cons_succ]
      refine wpAnyH_take (i := 13) (oi := { dst := some 45, op := Go.Op.nilCheck (Go.Operand.tmp 44), type := 0, pos := "ppu.go:128", after := #[{ on := 12, ground := Go.Ground.data }], guard := none }) (v := ?v170) rfl (by kernel_rfl) (by kernel_rfl) (by kernel_rfl) (fun _ _ _ h => h) (Or.inl ⟨by rfl, ?y170⟩) (by assumption) ?z170
      case y170 => (intro w hSw; (try dsimp only at hSw); go_simp) <;> with_reducible rfl
      try simp only [Act.put, List.setIfInBounds_toArray, List.set_cons_zero, List.set_cons_succ]
      refine wpAnyH_take (i := 14) (oi := { dst := some 46, op := Go.Op.indexAddr 59 (Go.Operand.tmp 45) (Go.Operand.const (Go.Value.int Go.IntKind.i64 8)), type := 0, pos := "ppu.go:128", after := #[{ on := 13, ground := Go.Ground.data }], guard := none }) (v := ?v171) rfl (by kernel_rfl) (by kernel_rfl) (by kernel_rfl) (fun _ _ _ h => h) (Or.inl ⟨by rfl, ?y171⟩) (by assumption) ?z171
      case y171 => (intro w hSw; (try dsimp only at hSw); go_simp) <;> with_reducible rfl
      try simp only [Act.put, List.setIfInBounds_toArray, List.set_cons_zero, List.set_cons_succ]
      refine wpAnyH_take (i := 15) (oi := { dst := some 47, op := Go.Op.load 5 (Go.Operand.tmp 46), type := 5, pos := "ppu.go:128", after := #[{ on := 14, ground := Go.Ground.data }], guard := none }) (v := ?v172) rfl (by kernel_rfl) (by kernel_rfl) (by kernel_rfl) (fun _ _ _ h => h) (Or.inl ⟨by rfl, ?y172⟩) (by assumption) ?z172
      case y172 => (intro w hSw; (try dsimp only at hSw); go_simp) <;> with_reducible rfl
      try simp only [Act.put, List.setIfInBounds_toArray, List.set_cons_zero, List.set_cons_succ]
      refine wpAnyH_take (i := 16) (oi := { dst := some 48, op := Go.Op.build 81 #[(0, Go.Operand.tmp 35), (1, Go.Operand.tmp 39), (2, Go.Operand.tmp 43), (3, Go.Operand.tmp 47)], type := 81, pos := "ppu.go:128", after := #[{ on := 3, ground := Go.Ground.data }, { on := 7, ground := Go.Ground.data }, { on := 11, ground := Go.Ground.data }, { on := 15, ground := Go.Ground.data }], guard := none }) (v := ?v173) rfl (by kernel_rfl) (by kernel_rfl) (by kernel_rfl) (fun _ _ _ h => h) (Or.inl ⟨by rfl, ?y173⟩) (by assumption) ?z173
      case y173 => (intro w hSw; (try dsimp only at hSw); go_simp) <;> with_reducible rfl
      try simp only [Act.put, List.setIfInBounds_toArray, List.set_cons_zero, List.set_cons_succ]
      refine wpAnyH_ready (rs := [17]) (by kernel_rfl) (by simp) ?_
      refine (AllReadyH.cons (o := { dst := some 4, op := Go.Op.alloc 81, type := 0, pos := "ppu.go:128", after := #[], guard := none }) rfl (fun K hK => ?_) AllReadyH.nil)
      · skip
        go_simp
        have Q_ := own1 u4 (.cells #[.int .u8 0, .int .u8 0, .int .u8 0, .int .u8 0] 81)
        have P5 := Lib.hid (P4.out.below Q_)
        have K5 := Lib.hid (K4.out.trans (Keeps.of_below Q_))
        have X5 := Lib.hid (X4.out.below Q_)
        have Y5 := Lib.hid (Has.new u4 #[.int .u8 0, .int .u8 0, .int .u8 0, .int .u8 0] 81)
        have LY := Lib.hid (K4.out.size)
        have NY := Lib.hid (Nat.ne_of_lt P4.out.1)
        have NXY := Lib.hid (Nat.ne_of_lt X4.out.1)
        clear Q_
        clear P4 K4 X4
        generalize u4.alloc (.cells #[.int .u8 0, .int .u8 0, .int .u8 0, .int .u8 0] 81) = u5 at P5 K5 X5 Y5 ⊢
        generalize u4.heap.size = yb at Y5 LY NY NXY ⊢
        refine hK.out _ _ ?s174 (fun hNew => ?r174)
        case s174 => exact P5.out.2.1
        clear hK K hHeld
        have hHeld := hNew
        clear hNew
        refine wpAnyH_ready (rs := [18]) (by kernel_rfl) (by simp) ?_
        refine (AllReadyH.cons (o := { dst := none, op := Go.Op.store 81 (Go.Operand.tmp 4) (Go.Operand.tmp 48), type := 0, pos := "ppu.go:128", after := #[{ on := 17, ground := Go.Ground.data }, { on := 16, ground := Go.Ground.data }, { on := 0, ground := Go.Ground.phase }, { on := 1, ground := Go.Ground.phase }, { on := 2, ground := Go.Ground.phase }, { on := 3, ground := Go.Ground.phase }, { on := 4, ground := Go.Ground.phase }, { on := 5, ground := Go.Ground.phase }, { on := 6, ground := Go.Ground.phase }, { on := 7, ground := Go.Ground.phase }, { on := 8, ground := Go.Ground.phase }, { on := 9, ground := Go.Ground.phase }, { on := 10, ground := Go.Ground.phase }, { on := 11, ground := Go.Ground.phase }, { on := 12, ground := Go.Ground.phase }, { on := 13, ground := Go.Ground.phase }, { on := 14, ground := Go.Ground.phase }, { on := 15, ground := Go.Ground.phase }, { on := 16, ground := Go.Ground.phase }, { on := 17, ground := Go.Ground.phase }], guard := none }) rfl (fun K hK => ?_) AllReadyH.nil)
        · skip
          refine wp_store_g r27 Y5.out rfl #[.int .u8 c, .int .u8 bk, .int .u8 fi, .int .u8 se] rfl (four_one _ _ _ _) _ _ rfl rfl rfl ?_
          intro u6 hP hk
          try simp only [Act.put, List.setIfInBounds_toArray, List.set_cons_zero, List.set_cons_succ]
          have Y6 := Lib.hid hP
          have K6 := Lib.hid (keeps_new K5.out LY.out hk)
          have P6 := Lib.hid (hk.has NY.out P5.out)
          have X6 := Lib.hid (hk.has NXY.out X5.out)
          clear hP hk
          clear P5 K5 X5 Y5
          refine hK.out _ _ ?s175 (fun hNew => ?r175)
          case s175 => exact P6.out.2.1
          clear hK K hHeld
          have hHeld := hNew
          clear hNew
          refine wpAnyH_done (by kernel_rfl) ?_ _
          clear hHeld
          clear e_c e_bk e_fi e_se
          go_wp2_with (fail)
          with_reducible refine (line_u b m (n : Int) HL.out (by omega) (by omega) _ P6.out).mono ?_
          rintro q_ w' ⟨rfl, rfl⟩
          go_upto_region 4 with (fail)
          have P7 := Lib.hid P6.out.drew
          have X7 := Lib.hid X6.out.drew
          have Y7 := Lib.hid Y6.out.drew
          have K7 := Lib.hid (K6.out.drew)
          clear P6 K6 X6 Y6
          have e_ow : (encU (m))[8364]? = some (.int .u8 ow) := (encU_u _ 8364 (by decide) (by decide) (by decide)).trans (congrArg (fun x => some (Value.int .u8 x)) (How.out))
          refine wp_region_held_drew (S := (fun w' => (∀ o, w'.cell? ⟨b, o, none⟩ = (encU m)[o]?) ∧ w'.rangeAt xb 0 (#[.int .u8 c, .int .u8 sx, .int .u8 sy, .int .u8 wx, .int .u8 wy] : Array Value).toList)) (by kernel_rfl) ⟨P7.out.2.1, range_of_has X7.out⟩ (fun hHeld => ?_)
          generalize World.drew _ = u7 at hHeld P7 K7 X7 Y7 ⊢
          refine wpAnyH_take (i := 0) (oi := { dst := some 52, op := Go.Op.load 80 (Go.Operand.tmp 3), type := 80, pos := "ppu.go:130", after := #[], guard := none }) (v := .agg #[.int .u8 c, .int .u8 sx, .int .u8 sy, .int .u8 wx, .int .u8 wy]) rfl (by kernel_rfl) (by kernel_rfl) (by kernel_rfl) (fun _ _ _ h => h) (yields_load r80 #[.int .u8 c, .int .u8 sx, .int .u8 sy, .int .u8 wx, .int .u8 wy] rfl xb (fun w hw => hw.2) (by rfl) _ rfl rfl) (by assumption) ?_
          try simp only [Act.put, List.setIfInBounds_toArray, List.set_cons_zero, List.set_cons_succ]
          refine wpAnyH_take (i := 1) (oi := { dst := some 53, op := Go.Op.move (Go.Operand.tmp 0), type := 25, pos := "ppu.go:130", after := #[], guard := none }) (v := ?v177) rfl (by kernel_rfl) (by kernel_rfl) (by kernel_rfl) (fun _ _ _ h => h) (Or.inl ⟨by rfl, ?y177⟩) (by assumption) ?z177
          case y177 => (intro w hSw; (try dsimp only at hSw); go_simp) <;> with_reducible rfl
          try simp only [Act.put, List.setIfInBounds_toArray, List.set_cons_zero, List.set_cons_succ]
          refine wpAnyH_take (i := 2) (oi := { dst := some 54, op := Go.Op.nilCheck (Go.Operand.tmp 53), type := 0, pos := "ppu.go:130", after := #[{ on := 1, ground := Go.Ground.data }], guard := none }) (v := ?v178) rfl (by kernel_rfl) (by kernel_rfl) (by kernel_rfl) (fun _ _ _ h => h) (Or.inl ⟨by rfl, ?y178⟩) (by assumption) ?z178
          case y178 => (intro w hSw; (try dsimp only at hSw); go_simp) <;> with_reducible rfl
          try simp only [Act.put, List.setIfInBounds_toArray, List.set_cons_zero, List.set_cons_succ]
          refine wpAnyH_take (i := 3) (oi := { dst := some 55, op := Go.Op.fieldAddr 61 (Go.Operand.tmp 54) 0, type := 0, pos := "ppu.go:130", after := #[{ on := 2, ground := Go.Ground.data }], guard := none }) (v := ?v179) rfl (by kernel_rfl) (by kernel_rfl) (by kernel_rfl) (fun _ _ _ h => h) (Or.inl ⟨by rfl, ?y179⟩) (by assumption) ?z179
          case y179 => (intro w hSw; (try dsimp only at hSw); go_simp) <;> with_reducible rfl
          try simp only [Act.put, List.setIfInBounds_toArray, List.set_cons_zero, List.set_cons_succ]
          refine wpAnyH_take (i := 4) (oi := { dst := some 56, op := Go.Op.slice 58 (Go.Operand.tmp 55) none none none, type := 31, pos := "ppu.go:130", after := #[{ on := 3, ground := Go.Ground.data }], guard := none }) (v := ?v180) rfl (by kernel_rfl) (by kernel_rfl) (by kernel_rfl) (fun _ _ _ h => h) (Or.inl ⟨by rfl, ?y180⟩) (by assumption) ?z180
          case y180 => (intro w hSw; (try dsimp only at hSw); go_simp) <;> with_reducible rfl
          try simp only [Act.put, List.setIfInBounds_toArray, List.set_cons_zero, List.set_cons_succ]
          refine wpAnyH_take (i := 5) (oi := { dst := some 57, op := Go.Op.move (Go.Operand.tmp 5), type := 3, pos := "ppu.go:130", after := #[], guard := none }) (v := ?v181) rfl (by kernel_rfl) (by kernel_rfl) (by kernel_rfl) (fun _ _ _ h => h) (Or.inl ⟨by rfl, ?y181⟩) (by assumption) ?z181
          case y181 => (intro w hSw; (try dsimp only at hSw); go_simp) <;> with_reducible rfl
          try simp only [Act.put, List.setIfInBounds_toArray, List.set_cons_zero, List.set_cons_succ]
          refine wpAnyH_take (i := 6) (oi := { dst := some 58, op := Go.Op.move (Go.Operand.tmp 0), type := 25, pos := "ppu.go:130", after := #[], guard := none }) (v := ?v182) rfl (by kernel_rfl) (by kernel_rfl) (by kernel_rfl) (fun _ _ _ h => h) (Or.inl ⟨by rfl, ?y182⟩) (by assumption) ?z182
          case y182 => (intro w hSw; (try dsimp only at hSw); go_simp) <;> with_reducible rfl
          try simp only [Act.put, List.setIfInBounds_toArray, List.set_cons_zero, List.set_cons_succ]
          refine wpAnyH_take (i := 7) (oi := { dst := some 59, op := Go.Op.nilCheck (Go.Operand.tmp 58), type := 0, pos := "ppu.go:130", after := #[{ on := 6, ground := Go.Ground.data }], guard := none }) (v := ?v183) rfl (by kernel_rfl) (by kernel_rfl) (by kernel_rfl) (fun _ _ _ h => h) (Or.inl ⟨by rfl, ?y183⟩) (by assumption) ?z183
          case y183 => (intro w hSw; (try dsimp only at hSw); go_simp) <;> with_reducible rfl
          try simp only [Act.put, List.setIfInBounds_toArray, List.set_cons_zero, List.set_cons_succ]
          refine wpAnyH_take (i := 8) (oi := { dst := some 60, op := Go.Op.fieldAddr 61 (Go.Operand.tmp 59) 4, type := 0, pos := "ppu.go:130", after := #[{ on := 7, ground := Go.Ground.data }], guard := none }) (v := ?v184) rfl (by kernel_rfl) (by kernel_rfl) (by kernel_rfl) (fun _ _ _ h => h) (Or.inl ⟨by rfl, ?y184⟩) (by assumption) ?z184
          case y184 => (intro w hSw; (try dsimp only at hSw); go_simp) <;> with_reducible rfl
          try simp only [Act.put, List.setIfInBounds_toArray, List.set_cons_zero, List.set_cons_succ]
          refine wpAnyH_take (i := 9) (oi := { dst := some 61, op := Go.Op.load 5 (Go.Operand.tmp 60), type := 5, pos := "ppu.go:130", after := #[{ on := 8, ground := Go.Ground.data }], guard := none }) (v := ?v185) rfl (by kernel_rfl) (by kernel_rfl) (by kernel_rfl) (fun _ _ _ h => h) (Or.inl ⟨by rfl, ?y185⟩) (by assumption) ?z185
          case y185 => (intro w hSw; (try dsimp only at hSw); go_simp) <;> with_reducible rfl
          try simp only [Act.put, List.setIfInBounds_toArray, List.set_cons_zero, List.set_cons_succ]
          refine wpAnyH_take (i := 10) (oi := { dst := some 62, op := Go.Op.convert 5 3 (Go.Operand.tmp 61), type := 3, pos := "ppu.go:130", after := #[{ on := 9, ground := Go.Ground.data }], guard := none }) (v := ?v186) rfl (by kernel_rfl) (by kernel_rfl) (by kernel_rfl) (fun _ _ _ h => h) (Or.inl ⟨by rfl, ?y186⟩) (by assumption) ?z186
          case y186 => (intro w hSw; (try dsimp only at hSw); go_simp) <;> with_reducible rfl
          try simp only [Act.put, List.setIfInBounds_toArray, List.set_cons_zero, List.set_cons_succ]
          refine wpAnyH_ready (rs := [11, 15]) (by kernel_rfl) (by simp) ?_
          refine (AllReadyH.cons (o := { dst := some 63, op := Go.Op.call { callee := Go.Callee.value (Go.Operand.func 57), args := #[Go.Operand.tmp 52, Go.Operand.tmp 56, Go.Operand.tmp 57, Go.Operand.tmp 62], argTypes := #[80, 31, 3, 3] }, type := 82, pos := "ppu.go:130", after := #[{ on := 0, ground := Go.Ground.data }, { on := 4, ground := Go.Ground.data }, { on := 5, ground := Go.Ground.data }, { on := 10, ground := Go.Ground.data }], guard := none }) rfl (fun K hK => ?_) (AllReadyH.cons (o := { dst := some 6, op := Go.Op.alloc 34, type := 0, pos := "ppu.go:130", after := #[], guard := none }) rfl (fun K hK => ?_) AllReadyH.nil))
          · skip
            go_simp
            with_reducible refine ((HLN.out _ (mem_vid P7.out HB.out))).mono ?_
            rintro q_ u8 ⟨rfl, hb⟩
            have P8 := Lib.hid (P7.out.below hb)
            have K8 := Lib.hid (K7.out.trans (Keeps.of_below hb))
            have X8 := Lib.hid (X7.out.below hb)
            have Y8 := Lib.hid (Y7.out.below hb)
            clear hb
            clear P7 K7 X7 Y7
            refine hK.out _ _ ?s187 (fun hNew => ?r187)
            case s187 => exact ⟨P8.out.2.1, range_of_has X8.out⟩
            clear hK K hHeld
            have hHeld := hNew
            clear hNew
            refine wpAnyH_take (i := 12) (oi := { dst := some 51, op := Go.Op.move (Go.Operand.tmp 63), type := 82, pos := "ppu.go:130", after := #[{ on := 11, ground := Go.Ground.data }], guard := none }) (v := ?v188) rfl (by kernel_rfl) (by kernel_rfl) (by kernel_rfl) (fun _ _ _ h => h) (Or.inl ⟨by rfl, ?y188⟩) (by assumption) ?z188
            case y188 => (intro w hSw; (try dsimp only at hSw); go_simp) <;> with_reducible rfl
            try simp only [Act.put, List.setIfInBounds_toArray, List.set_cons_zero, List.set_cons_succ]
            refine wpAnyH_take (i := 13) (oi := { dst := some 64, op := Go.Op.extract (Go.Operand.tmp 51) 0, type := 34, pos := "ppu.go:130", after := #[{ on := 12, ground := Go.Ground.data }], guard := none }) (v := ?v189) rfl (by kernel_rfl) (by kernel_rfl) (by kernel_rfl) (fun _ _ _ h => h) (Or.inl ⟨by rfl, ?y189⟩) (by assumption) ?z189
            case y189 => (intro w hSw; (try dsimp only at hSw); go_simp) <;> with_reducible rfl
            try simp only [Act.put, List.setIfInBounds_toArray, List.set_cons_zero, List.set_cons_succ]
            refine wpAnyH_take (i := 14) (oi := { dst := some 65, op := Go.Op.extract (Go.Operand.tmp 51) 1, type := 4, pos := "ppu.go:130", after := #[{ on := 12, ground := Go.Ground.data }, { on := 16, ground := Go.Ground.gcOnly Go.Departure.lateStores }], guard := none }) (v := ?v190) rfl (by kernel_rfl) (by kernel_rfl) (by kernel_rfl) (fun _ _ _ h => h) (Or.inl ⟨by rfl, ?y190⟩) (by assumption) ?z190
            case y190 => (intro w hSw; (try dsimp only at hSw); go_simp) <;> with_reducible rfl
            try simp only [Act.put, List.setIfInBounds_toArray, List.set_cons_zero, List.set_cons_succ]
            refine wpAnyH_ready (rs := [15]) (by kernel_rfl) (by simp) ?_
            refine (AllReadyH.cons (o := { dst := some 6, op := Go.Op.alloc 34, type := 0, pos := "ppu.go:130", after := #[], guard := none }) rfl (fun K hK => ?_) AllReadyH.nil)
            · skip
              go_simp
              have Q_ := own1 u8 (.cells Try.zeroCells34 34)
              have P9 := Lib.hid (P8.out.below Q_)
              have K9 := Lib.hid (K8.out.trans (Keeps.of_below Q_))
              have X9 := Lib.hid (X8.out.below Q_)
              have Y9 := Lib.hid (Y8.out.below Q_)
              have Z9 := Lib.hid (Has.new u8 Try.zeroCells34 34)
              have LZ := Lib.hid (K8.out.size)
              have NZ := Lib.hid (Nat.ne_of_lt P8.out.1)
              have NXZ := Lib.hid (Nat.ne_of_lt X8.out.1)
              have NYZ := Lib.hid (Nat.ne_of_lt Y8.out.1)
              clear Q_
              clear P8 K8 X8 Y8
              generalize u8.alloc (.cells Try.zeroCells34 34) = u9 at P9 K9 X9 Y9 Z9 ⊢
              generalize u8.heap.size = zb at Z9 LZ NZ NXZ NYZ ⊢
              refine hK.out _ _ ?s191 (fun hNew => ?r191)
              case s191 => exact ⟨P9.out.2.1, range_of_has X9.out⟩
              clear hK K hHeld
              have hHeld := hNew
              clear hNew
              refine wpAnyH_ready (rs := [16]) (by kernel_rfl) (by simp) ?_
              refine (AllReadyH.cons (o := { dst := none, op := Go.Op.store 34 (Go.Operand.tmp 6) (Go.Operand.tmp 64), type := 0, pos := "ppu.go:130", after := #[{ on := 15, ground := Go.Ground.data }, { on := 13, ground := Go.Ground.data }, { on := 11, ground := Go.Ground.chain }, { on := 0, ground := Go.Ground.phase }, { on := 1, ground := Go.Ground.phase }, { on := 2, ground := Go.Ground.phase }, { on := 3, ground := Go.Ground.phase }, { on := 4, ground := Go.Ground.phase }, { on := 5, ground := Go.Ground.phase }, { on := 6, ground := Go.Ground.phase }, { on := 7, ground := Go.Ground.phase }, { on := 8, ground := Go.Ground.phase }, { on := 9, ground := Go.Ground.phase }, { on := 10, ground := Go.Ground.phase }, { on := 11, ground := Go.Ground.phase }, { on := 12, ground := Go.Ground.phase }, { on := 13, ground := Go.Ground.phase }, { on := 14, ground := Go.Ground.textOnly Go.Departure.lateStores }, { on := 15, ground := Go.Ground.phase }], guard := none }) rfl (fun K hK => ?_) AllReadyH.nil)
              · skip
                refine wp_store_g r34 Z9.out Try.zeroCells34_size (enc U) (enc_size _) (enc_one _) _ _ rfl rfl rfl ?_
                intro u10 hP hk
                try simp only [Act.put, List.setIfInBounds_toArray, List.set_cons_zero, List.set_cons_succ]
                have Z10 := Lib.hid hP
                have K10 := Lib.hid (keeps_new K9.out LZ.out hk)
                have P10 := Lib.hid (hk.has NZ.out P9.out)
                have X10 := Lib.hid (hk.has NXZ.out X9.out)
                have Y10 := Lib.hid (hk.has NYZ.out Y9.out)
                clear hP hk
                clear P9 K9 X9 Y9 Z9
                refine hK.out _ _ ?s192 (fun hNew => ?r192)
                case s192 => exact ⟨P10.out.2.1, range_of_has X10.out⟩
                clear hK K hHeld
                have hHeld := hNew
                clear hNew
                refine wpAnyH_take (i := 17) (oi := { dst := some 7, op := Go.Op.assign (Go.Operand.tmp 65), type := 4, pos := "ppu.go:130", after := #[{ on := 14, ground := Go.Ground.data }, { on := 16, ground := Go.Ground.chain }, { on := 0, ground := Go.Ground.phase }, { on := 1, ground := Go.Ground.phase }, { on := 2, ground := Go.Ground.phase }, { on := 3, ground := Go.Ground.phase }, { on := 4, ground := Go.Ground.phase }, { on := 5, ground := Go.Ground.phase }, { on := 6, ground := Go.Ground.phase }, { on := 7, ground := Go.Ground.phase }, { on := 8, ground := Go.Ground.phase }, { on := 9, ground := Go.Ground.phase }, { on := 10, ground := Go.Ground.phase }, { on := 11, ground := Go.Ground.phase }, { on := 12, ground := Go.Ground.phase }, { on := 13, ground := Go.Ground.phase }, { on := 14, ground := Go.Ground.phase }, { on := 15, ground := Go.Ground.phase }, { on := 16, ground := Go.Ground.phase }], guard := none }) (v := ?v193) rfl (by kernel_rfl) (by kernel_rfl) (by kernel_rfl) (fun _ _ _ h => h) (Or.inl ⟨by rfl, ?y193⟩) (by assumption) ?z193
                case y193 => (intro w hSw; (try dsimp only at hSw); go_simp) <;> with_reducible rfl
                try simp only [Act.put, List.setIfInBounds_toArray, List.set_cons_zero, List.set_cons_succ]
                refine wpAnyH_done (by kernel_rfl) ?_ _
                clear hHeld
                clear e_ow
                go_upto_region 5 with (fail)
                have P11 := Lib.hid P10.out.drew
                have X11 := Lib.hid X10.out.drew
                have Y11 := Lib.hid Y10.out.drew
                have Z11 := Lib.hid Z10.out.drew
                have K11 := Lib.hid (K10.out.drew)
                clear P10 K10 X10 Y10 Z10
                refine wp_region_held_drew (S := (fun w' => w'.rangeAt yb 0 (#[.int .u8 c, .int .u8 bk, .int .u8 fi, .int .u8 se] : Array Value).toList ∧ w'.rangeAt zb 0 (enc U).toList)) (by kernel_rfl) ⟨range_of_has Y11.out, range_of_has Z11.out⟩ (fun hHeld => ?_)
                generalize World.drew _ = u11 at hHeld P11 K11 X11 Y11 Z11 ⊢
                refine wpAnyH_take (i := 0) (oi := { dst := some 66, op := Go.Op.move (Go.Operand.tmp 0), type := 25, pos := "ppu.go:131", after := #[], guard := none }) (v := ?v194) rfl (by kernel_rfl) (by kernel_rfl) (by kernel_rfl) (fun _ _ _ h => h) (Or.inl ⟨by rfl, ?y194⟩) (by assumption) ?z194
                case y194 => (intro w hSw; (try dsimp only at hSw); go_simp) <;> with_reducible rfl
                try simp only [Act.put, List.setIfInBounds_toArray, List.set_cons_zero, List.set_cons_succ]
                refine wpAnyH_take (i := 1) (oi := { dst := some 67, op := Go.Op.move (Go.Operand.tmp 5), type := 3, pos := "ppu.go:131", after := #[], guard := none }) (v := ?v195) rfl (by kernel_rfl) (by kernel_rfl) (by kernel_rfl) (fun _ _ _ h => h) (Or.inl ⟨by rfl, ?y195⟩) (by assumption) ?z195
                case y195 => (intro w hSw; (try dsimp only at hSw); go_simp) <;> with_reducible rfl
                try simp only [Act.put, List.setIfInBounds_toArray, List.set_cons_zero, List.set_cons_succ]
                refine wpAnyH_take (i := 2) (oi := { dst := some 68, op := Go.Op.load 81 (Go.Operand.tmp 4), type := 81, pos := "ppu.go:131", after := #[], guard := none }) (v := .agg #[.int .u8 c, .int .u8 bk, .int .u8 fi, .int .u8 se]) rfl (by kernel_rfl) (by kernel_rfl) (by kernel_rfl) (fun _ _ _ h => h) (yields_load r27 #[.int .u8 c, .int .u8 bk, .int .u8 fi, .int .u8 se] rfl yb (fun w hw => hw.1) (by rfl) _ rfl rfl) (by assumption) ?_
                try simp only [Act.put, List.setIfInBounds_toArray, List.set_cons_zero, List.set_cons_succ]
                refine wpAnyH_take (i := 3) (oi := { dst := some 69, op := Go.Op.move (Go.Operand.tmp 0), type := 25, pos := "ppu.go:131", after := #[], guard := none }) (v := ?v197) rfl (by kernel_rfl) (by kernel_rfl) (by kernel_rfl) (fun _ _ _ h => h) (Or.inl ⟨by rfl, ?y197⟩) (by assumption) ?z197
                case y197 => (intro w hSw; (try dsimp only at hSw); go_simp) <;> with_reducible rfl
                try simp only [Act.put, List.setIfInBounds_toArray, List.set_cons_zero, List.set_cons_succ]
                refine wpAnyH_take (i := 4) (oi := { dst := some 70, op := Go.Op.nilCheck (Go.Operand.tmp 69), type := 0, pos := "ppu.go:131", after := #[{ on := 3, ground := Go.Ground.data }], guard := none }) (v := ?v198) rfl (by kernel_rfl) (by kernel_rfl) (by kernel_rfl) (fun _ _ _ h => h) (Or.inl ⟨by rfl, ?y198⟩) (by assumption) ?z198
                case y198 => (intro w hSw; (try dsimp only at hSw); go_simp) <;> with_reducible rfl
                try simp only [Act.put, List.setIfInBounds_toArray, List.set_cons_zero, List.set_cons_succ]
                refine wpAnyH_take (i := 5) (oi := { dst := some 71, op := Go.Op.fieldAddr 61 (Go.Operand.tmp 70) 0, type := 0, pos := "ppu.go:131", after := #[{ on := 4, ground := Go.Ground.data }], guard := none }) (v := ?v199) rfl (by kernel_rfl) (by kernel_rfl) (by kernel_rfl) (fun _ _ _ h => h) (Or.inl ⟨by rfl, ?y199⟩) (by assumption) ?z199
                case y199 => (intro w hSw; (try dsimp only at hSw); go_simp) <;> with_reducible rfl
                try simp only [Act.put, List.setIfInBounds_toArray, List.set_cons_zero, List.set_cons_succ]
                refine wpAnyH_take (i := 6) (oi := { dst := some 72, op := Go.Op.slice 58 (Go.Operand.tmp 71) none none none, type := 31, pos := "ppu.go:131", after := #[{ on := 5, ground := Go.Ground.data }], guard := none }) (v := ?v200) rfl (by kernel_rfl) (by kernel_rfl) (by kernel_rfl) (fun _ _ _ h => h) (Or.inl ⟨by rfl, ?y200⟩) (by assumption) ?z200
                case y200 => (intro w hSw; (try dsimp only at hSw); go_simp) <;> with_reducible rfl
                try simp only [Act.put, List.setIfInBounds_toArray, List.set_cons_zero, List.set_cons_succ]
                refine wpAnyH_take (i := 7) (oi := { dst := some 73, op := Go.Op.move (Go.Operand.tmp 0), type := 25, pos := "ppu.go:131", after := #[], guard := none }) (v := ?v201) rfl (by kernel_rfl) (by kernel_rfl) (by kernel_rfl) (fun _ _ _ h => h) (Or.inl ⟨by rfl, ?y201⟩) (by assumption) ?z201
                case y201 => (intro w hSw; (try dsimp only at hSw); go_simp) <;> with_reducible rfl
                try simp only [Act.put, List.setIfInBounds_toArray, List.set_cons_zero, List.set_cons_succ]
                refine wpAnyH_take (i := 8) (oi := { dst := some 74, op := Go.Op.nilCheck (Go.Operand.tmp 73), type := 0, pos := "ppu.go:131", after := #[{ on := 7, ground := Go.Ground.data }], guard := none }) (v := ?v202) rfl (by kernel_rfl) (by kernel_rfl) (by kernel_rfl) (fun _ _ _ h => h) (Or.inl ⟨by rfl, ?y202⟩) (by assumption) ?z202
                case y202 => (intro w hSw; (try dsimp only at hSw); go_simp) <;> with_reducible rfl
                try simp only [Act.put, List.setIfInBounds_toArray, List.set_cons_zero, List.set_cons_succ]
                refine wpAnyH_take (i := 9) (oi := { dst := some 75, op := Go.Op.fieldAddr 61 (Go.Operand.tmp 74) 1, type := 0, pos := "ppu.go:131", after := #[{ on := 8, ground := Go.Ground.data }], guard := none }) (v := ?v203) rfl (by kernel_rfl) (by kernel_rfl) (by kernel_rfl) (fun _ _ _ h => h) (Or.inl ⟨by rfl, ?y203⟩) (by assumption) ?z203
                case y203 => (intro w hSw; (try dsimp only at hSw); go_simp) <;> with_reducible rfl
                try simp only [Act.put, List.setIfInBounds_toArray, List.set_cons_zero, List.set_cons_succ]
                refine wpAnyH_take (i := 10) (oi := { dst := some 76, op := Go.Op.slice 34 (Go.Operand.tmp 75) none none none, type := 31, pos := "ppu.go:131", after := #[{ on := 9, ground := Go.Ground.data }], guard := none }) (v := ?v204) rfl (by kernel_rfl) (by kernel_rfl) (by kernel_rfl) (fun _ _ _ h => h) (Or.inl ⟨by rfl, ?y204⟩) (by assumption) ?z204
                case y204 => (intro w hSw; (try dsimp only at hSw); go_simp) <;> with_reducible rfl
                try simp only [Act.put, List.setIfInBounds_toArray, List.set_cons_zero, List.set_cons_succ]
                refine wpAnyH_take (i := 11) (oi := { dst := some 77, op := Go.Op.move (Go.Operand.tmp 5), type := 3, pos := "ppu.go:131", after := #[], guard := none }) (v := ?v205) rfl (by kernel_rfl) (by kernel_rfl) (by kernel_rfl) (fun _ _ _ h => h) (Or.inl ⟨by rfl, ?y205⟩) (by assumption) ?z205
                case y205 => (intro w hSw; (try dsimp only at hSw); go_simp) <;> with_reducible rfl
                try simp only [Act.put, List.setIfInBounds_toArray, List.set_cons_zero, List.set_cons_succ]
                refine wpAnyH_take (i := 12) (oi := { dst := some 78, op := Go.Op.load 34 (Go.Operand.tmp 6), type := 34, pos := "ppu.go:131", after := #[], guard := none }) (v := .agg (enc U)) rfl (by kernel_rfl) (by kernel_rfl) (by kernel_rfl) (fun _ _ _ h => h) (yields_load r34 (enc U) (enc_size _) zb (fun w hw => hw.2) (by rfl) _ rfl rfl) (by assumption) ?_
                try simp only [Act.put, List.setIfInBounds_toArray, List.set_cons_zero, List.set_cons_succ]
                refine wpAnyH_take (i := 14) (oi := { dst := some 80, op := Go.Op.nilCheck (Go.Operand.tmp 66), type := 0, pos := "ppu.go:131", after := #[{ on := 0, ground := Go.Ground.data }], guard := none }) (v := ?v207) rfl (by kernel_rfl) (by kernel_rfl) (by kernel_rfl) (fun _ _ _ h => h) (Or.inl ⟨by rfl, ?y207⟩) (by assumption) ?z207
                case y207 => (intro w hSw; (try dsimp only at hSw); go_simp) <;> with_reducible rfl
                try simp only [Act.put, List.setIfInBounds_toArray, List.set_cons_zero, List.set_cons_succ]
                refine wpAnyH_take (i := 15) (oi := { dst := some 81, op := Go.Op.fieldAddr 61 (Go.Operand.tmp 80) 7, type := 0, pos := "ppu.go:131", after := #[{ on := 14, ground := Go.Ground.data }], guard := none }) (v := ?v208) rfl (by kernel_rfl) (by kernel_rfl) (by kernel_rfl) (fun _ _ _ h => h) (Or.inl ⟨by rfl, ?y208⟩) (by assumption) ?z208
                case y208 => (intro w hSw; (try dsimp only at hSw); go_simp) <;> with_reducible rfl
                try simp only [Act.put, List.setIfInBounds_toArray, List.set_cons_zero, List.set_cons_succ]
                refine wpAnyH_ready (rs := [13]) (by kernel_rfl) (by simp) ?_
                refine (AllReadyH.cons (o := { dst := some 79, op := Go.Op.call { callee := Go.Callee.value (Go.Operand.func 58), args := #[Go.Operand.tmp 68, Go.Operand.tmp 72, Go.Operand.tmp 76, Go.Operand.tmp 77, Go.Operand.tmp 78], argTypes := #[81, 31, 31, 3, 34] }, type := 34, pos := "ppu.go:131", after := #[{ on := 2, ground := Go.Ground.data }, { on := 6, ground := Go.Ground.data }, { on := 10, ground := Go.Ground.data }, { on := 11, ground := Go.Ground.data }, { on := 12, ground := Go.Ground.data }], guard := none }) rfl (fun K hK => ?_) AllReadyH.nil)
                · skip
                  go_simp
                  with_reducible refine ((HLK.out _ (mem_vid P11.out HB.out) (mem_oam P11.out HB.out))).mono ?_
                  rintro q_ u12 ⟨rfl, hb⟩
                  have P12 := Lib.hid (P11.out.below hb)
                  have K12 := Lib.hid (K11.out.trans (Keeps.of_below hb))
                  have X12 := Lib.hid (X11.out.below hb)
                  have Y12 := Lib.hid (Y11.out.below hb)
                  have Z12 := Lib.hid (Z11.out.below hb)
                  clear hb
                  clear P11 K11 X11 Y11 Z11
                  refine hK.out _ _ ?s209 (fun hNew => ?r209)
                  case s209 => exact ⟨range_of_has Y12.out, range_of_has Z12.out⟩
                  clear hK K hHeld
                  have hHeld := hNew
                  clear hNew
                  refine wpAnyH_take (i := 16) (oi := { dst := some 82, op := Go.Op.indexAddr 35 (Go.Operand.tmp 81) (Go.Operand.tmp 67), type := 0, pos := "ppu.go:131", after := #[{ on := 15, ground := Go.Ground.data }, { on := 1, ground := Go.Ground.data }, { on := 0, ground := Go.Ground.phase }, { on := 1, ground := Go.Ground.phase }, { on := 2, ground := Go.Ground.phase }, { on := 3, ground := Go.Ground.phase }, { on := 4, ground := Go.Ground.phase }, { on := 5, ground := Go.Ground.phase }, { on := 6, ground := Go.Ground.phase }, { on := 7, ground := Go.Ground.phase }, { on := 8, ground := Go.Ground.phase }, { on := 9, ground := Go.Ground.phase }, { on := 10, ground := Go.Ground.phase }, { on := 11, ground := Go.Ground.phase }, { on := 12, ground := Go.Ground.phase }, { on := 13, ground := Go.Ground.phase }], guard := none }) (v := ?v210) rfl (by kernel_rfl) (by kernel_rfl) (by kernel_rfl) (fun _ _ _ h => h) (Or.inl ⟨by rfl, ?y210⟩) (by assumption) ?z210
                  case y210 => (intro w hSw; (try dsimp only at hSw); go_simp) <;> with_reducible rfl
                  try simp only [Act.put, List.setIfInBounds_toArray, List.set_cons_zero, List.set_cons_succ]
                  refine wpAnyH_ready (rs := [17]) (by kernel_rfl) (by simp) ?_
                  refine (AllReadyH.cons (o := { dst := none, op := Go.Op.store 34 (Go.Operand.tmp 82) (Go.Operand.tmp 79), type := 0, pos := "ppu.go:131", after := #[{ on := 16, ground := Go.Ground.data }, { on := 13, ground := Go.Ground.data }, { on := 13, ground := Go.Ground.chain }, { on := 0, ground := Go.Ground.phase }, { on := 1, ground := Go.Ground.phase }, { on := 2, ground := Go.Ground.phase }, { on := 3, ground := Go.Ground.phase }, { on := 4, ground := Go.Ground.phase }, { on := 5, ground := Go.Ground.phase }, { on := 6, ground := Go.Ground.phase }, { on := 7, ground := Go.Ground.phase }, { on := 8, ground := Go.Ground.phase }, { on := 9, ground := Go.Ground.phase }, { on := 10, ground := Go.Ground.phase }, { on := 11, ground := Go.Ground.phase }, { on := 12, ground := Go.Ground.phase }, { on := 13, ground := Go.Ground.phase }], guard := none }) rfl (fun K hK => ?_) AllReadyH.nil)
                  · skip
                    refine wp_store_row P12.out R _ _ rfl (8367 + n * 160) rfl rfl (by omega) (by omega) ?_
                    intro u13 hP hk
                    try simp only [Act.put, List.setIfInBounds_toArray, List.set_cons_zero, List.set_cons_succ]
                    have P13 := Lib.hid hP
                    have K13 := Lib.hid (K12.out.trans hk)
                    have X13 := Lib.hid (hk.has (Ne.symm NX.out) X12.out)
                    have Y13 := Lib.hid (hk.has (Ne.symm NY.out) Y12.out)
                    have Z13 := Lib.hid (hk.has (Ne.symm NZ.out) Z12.out)
                    clear hP hk
                    clear P12 K12 X12 Y12 Z12
                    refine hK.out _ _ ?s211 (fun hNew => ?r211)
                    case s211 => exact ⟨range_of_has Y13.out, range_of_has Z13.out⟩
                    clear hK K hHeld
                    have hHeld := hNew
                    clear hNew
                    refine wpAnyH_done (by kernel_rfl) ?_ _
                    clear hHeld
                    go_wp2
                    all_goals first | exact bodyPost_ret (v := .tuple #[]) (by simp [results, Try.results44, go_sem]) rfl ⟨rfl, P13.out, K13.out⟩ | exact bodyPost_end (v := .tuple #[]) (by simp [results, Try.results44, go_sem]) rfl ⟨rfl, P13.out, K13.out⟩
          · skip
            go_simp
            have Q_ := own1 u7 (.cells Try.zeroCells34 34)
            have P8 := Lib.hid (P7.out.below Q_)
            have K8 := Lib.hid (K7.out.trans (Keeps.of_below Q_))
            have X8 := Lib.hid (X7.out.below Q_)
            have Y8 := Lib.hid (Y7.out.below Q_)
            have Z8 := Lib.hid (Has.new u7 Try.zeroCells34 34)
            have LZ := Lib.hid (K7.out.size)
            have NZ := Lib.hid (Nat.ne_of_lt P7.out.1)
            have NXZ := Lib.hid (Nat.ne_of_lt X7.out.1)
            have NYZ := Lib.hid (Nat.ne_of_lt Y7.out.1)
            clear Q_
            clear P7 K7 X7 Y7
            generalize u7.alloc (.cells Try.zeroCells34 34) = u8 at P8 K8 X8 Y8 Z8 ⊢
            generalize u7.heap.size = zb at Z8 LZ NZ NXZ NYZ ⊢
            refine hK.out _ _ ?s212 (fun hNew => ?r212)
            case s212 => exact ⟨P8.out.2.1, range_of_has X8.out⟩
            clear hK K hHeld
            have hHeld := hNew
            clear hNew
            refine wpAnyH_ready (rs := [11]) (by kernel_rfl) (by simp) ?_
            refine (AllReadyH.cons (o := { dst := some 63, op := Go.Op.call { callee := Go.Callee.value (Go.Operand.func 57), args := #[Go.Operand.tmp 52, Go.Operand.tmp 56, Go.Operand.tmp 57, Go.Operand.tmp 62], argTypes := #[80, 31, 3, 3] }, type := 82, pos := "ppu.go:130", after := #[{ on := 0, ground := Go.Ground.data }, { on := 4, ground := Go.Ground.data }, { on := 5, ground := Go.Ground.data }, { on := 10, ground := Go.Ground.data }], guard := none }) rfl (fun K hK => ?_) AllReadyH.nil)
            · skip
              go_simp
              with_reducible refine ((HLN.out _ (mem_vid P8.out HB.out))).mono ?_
              rintro q_ u9 ⟨rfl, hb⟩
              have P9 := Lib.hid (P8.out.below hb)
              have K9 := Lib.hid (K8.out.trans (Keeps.of_below hb))
              have X9 := Lib.hid (X8.out.below hb)
              have Y9 := Lib.hid (Y8.out.below hb)
              have Z9 := Lib.hid (Z8.out.below hb)
              clear hb
              clear P8 K8 X8 Y8 Z8
              refine hK.out _ _ ?s213 (fun hNew => ?r213)
              case s213 => exact ⟨P9.out.2.1, range_of_has X9.out⟩
              clear hK K hHeld
              have hHeld := hNew
              clear hNew
              refine wpAnyH_take (i := 12) (oi := { dst := some 51, op := Go.Op.move (Go.Operand.tmp 63), type := 82, pos := "ppu.go:130", after := #[{ on := 11, ground := Go.Ground.data }], guard := none }) (v := ?v214) rfl (by kernel_rfl) (by kernel_rfl) (by kernel_rfl) (fun _ _ _ h => h) (Or.inl ⟨by rfl, ?y214⟩) (by assumption) ?z214
              case y214 => (intro w hSw; (try dsimp only at hSw); go_simp) <;> with_reducible rfl
              try simp only [Act.put, List.setIfInBounds_toArray, List.set_cons_zero, List.set_cons_succ]
              refine wpAnyH_take (i := 13) (oi := { dst := some 64, op := Go.Op.extract (Go.Operand.tmp 51) 0, type := 34, pos := "ppu.go:130", after := #[{ on := 12, ground := Go.Ground.data }], guard := none }) (v := ?v215) rfl (by kernel_rfl) (by kernel_rfl) (by kernel_rfl) (fun _ _ _ h => h) (Or.inl ⟨by rfl, ?y215⟩) (by assumption) ?z215
              case y215 => (intro w hSw; (try dsimp only at hSw); go_simp) <;> with_reducible rfl
              try simp only [Act.put, List.setIfInBounds_toArray, List.set_cons_zero, List.set_cons_succ]
              refine wpAnyH_take (i := 14) (oi := { dst := some 65, op := Go.Op.extract (Go.Operand.tmp 51) 1, type := 4, pos := "ppu.go:130", after := #[{ on := 12, ground := Go.Ground.data }, { on := 16, ground := Go.Ground.gcOnly Go.Departure.lateStores }], guard := none }) (v := ?v216) rfl (by kernel_rfl) (by kernel_rfl) (by kernel_rfl) (fun _ _ _ h => h) (Or.inl ⟨by rfl, ?y216⟩) (by assumption) ?z216
              case y216 => (intro w hSw; (try dsimp only at hSw); go_simp) <;> with_reducible rfl
              try simp only [Act.put, List.setIfInBounds_toArray, List.set_cons_zero, List.set_cons_succ]
              refine wpAnyH_ready (rs := [16]) (by kernel_rfl) (by simp) ?_
              refine (AllReadyH.cons (o := { dst := none, op := Go.Op.store 34 (Go.Operand.tmp 6) (Go.Operand.tmp 64), type := 0, pos := "ppu.go:130", after := #[{ on := 15, ground := Go.Ground.data }, { on := 13, ground := Go.Ground.data }, { on := 11, ground := Go.Ground.chain }, { on := 0, ground := Go.Ground.phase }, { on := 1, ground := Go.Ground.phase }, { on := 2, ground := Go.Ground.phase }, { on := 3, ground := Go.Ground.phase }, { on := 4, ground := Go.Ground.phase }, { on := 5, ground := Go.Ground.phase }, { on := 6, ground := Go.Ground.phase }, { on := 7, ground := Go.Ground.phase }, { on := 8, ground := Go.Ground.phase }, { on := 9, ground := Go.Ground.phase }, { on := 10, ground := Go.Ground.phase }, { on := 11, ground := Go.Ground.phase }, { on := 12, ground := Go.Ground.phase }, { on := 13, ground := Go.Ground.phase }, { on := 14, ground := Go.Ground.textOnly Go.Departure.lateStores }, { on := 15, ground := Go.Ground.phase }], guard := none }) rfl (fun K hK => ?_) AllReadyH.nil)
              · skip
                refine wp_store_g r34 Z9.out Try.zeroCells34_size (enc U) (enc_size _) (enc_one _) _ _ rfl rfl rfl ?_
                intro u10 hP hk
                try simp only [Act.put, List.setIfInBounds_toArray, List.set_cons_zero, List.set_cons_succ]
                have Z10 := Lib.hid hP
                have K10 := Lib.hid (keeps_new K9.out LZ.out hk)
                have P10 := Lib.hid (hk.has NZ.out P9.out)
                have X10 := Lib.hid (hk.has NXZ.out X9.out)
                have Y10 := Lib.hid (hk.has NYZ.out Y9.out)
                clear hP hk
                clear P9 K9 X9 Y9 Z9
                refine hK.out _ _ ?s217 (fun hNew => ?r217)
                case s217 => exact ⟨P10.out.2.1, range_of_has X10.out⟩
                clear hK K hHeld
                have hHeld := hNew
                clear hNew
                refine wpAnyH_take (i := 17) (oi := { dst := some 7, op := Go.Op.assign (Go.Operand.tmp 65), type := 4, pos := "ppu.go:130", after := #[{ on := 14, ground := Go.Ground.data }, { on := 16, ground := Go.Ground.chain }, { on := 0, ground := Go.Ground.phase }, { on := 1, ground := Go.Ground.phase }, { on := 2, ground := Go.Ground.phase }, { on := 3, ground := Go.Ground.phase }, { on := 4, ground := Go.Ground.phase }, { on := 5, ground := Go.Ground.phase }, { on := 6, ground := Go.Ground.phase }, { on := 7, ground := Go.Ground.phase }, { on := 8, ground := Go.Ground.phase }, { on := 9, ground := Go.Ground.phase }, { on := 10, ground := Go.Ground.phase }, { on := 11, ground := Go.Ground.phase }, { on := 12, ground := Go.Ground.phase }, { on := 13, ground := Go.Ground.phase }, { on := 14, ground := Go.Ground.phase }, { on := 15, ground := Go.Ground.phase }, { on := 16, ground := Go.Ground.phase }], guard := none }) (v := ?v218) rfl (by kernel_rfl) (by kernel_rfl) (by kernel_rfl) (fun _ _ _ h => h) (Or.inl ⟨by rfl, ?y218⟩) (by assumption) ?z218
                case y218 => (intro w hSw; (try dsimp only at hSw); go_simp) <;> with_reducible rfl
                try simp only [Act.put, List.setIfInBounds_toArray, List.set_cons_zero, List.set_cons_succ]
                refine wpAnyH_done (by kernel_rfl) ?_ _
                clear hHeld
                clear e_ow
                go_upto_region 5 with (fail)
                have P11 := Lib.hid P10.out.drew
                have X11 := Lib.hid X10.out.drew
                have Y11 := Lib.hid Y10.out.drew
                have Z11 := Lib.hid Z10.out.drew
                have K11 := Lib.hid (K10.out.drew)
                clear P10 K10 X10 Y10 Z10
                refine wp_region_held_drew (S := (fun w' => w'.rangeAt yb 0 (#[.int .u8 c, .int .u8 bk, .int .u8 fi, .int .u8 se] : Array Value).toList ∧ w'.rangeAt zb 0 (enc U).toList)) (by kernel_rfl) ⟨range_of_has Y11.out, range_of_has Z11.out⟩ (fun hHeld => ?_)
                generalize World.drew _ = u11 at hHeld P11 K11 X11 Y11 Z11 ⊢
                refine wpAnyH_take (i := 0) (oi := { dst := some 66, op := Go.Op.move (Go.Operand.tmp 0), type := 25, pos := "ppu.go:131", after := #[], guard := none }) (v := ?v219) rfl (by kernel_rfl) (by kernel_rfl) (by kernel_rfl) (fun _ _ _ h => h) (Or.inl ⟨by rfl, ?y219⟩) (by assumption) ?z219
                case y219 => (intro w hSw; (try dsimp only at hSw); go_simp) <;> with_reducible rfl
                try simp only [Act.put, List.setIfInBounds_toArray, List.set_cons_zero, List.set_cons_succ]
                refine wpAnyH_take (i := 1) (oi := { dst := some 67, op := Go.Op.move (Go.Operand.tmp 5), type := 3, pos := "ppu.go:131", after := #[], guard := none }) (v := ?v220) rfl (by kernel_rfl) (by kernel_rfl) (by kernel_rfl) (fun _ _ _ h => h) (Or.inl ⟨by rfl, ?y220⟩) (by assumption) ?z220
                case y220 => (intro w hSw; (try dsimp only at hSw); go_simp) <;> with_reducible rfl
                try simp only [Act.put, List.setIfInBounds_toArray, List.set_cons_zero, List.set_cons_succ]
                refine wpAnyH_take (i := 2) (oi := { dst := some 68, op := Go.Op.load 81 (Go.Operand.tmp 4), type := 81, pos := "ppu.go:131", after := #[], guard := none }) (v := .agg #[.int .u8 c, .int .u8 bk, .int .u8 fi, .int .u8 se]) rfl (by kernel_rfl) (by kernel_rfl) (by kernel_rfl) (fun _ _ _ h => h) (yields_load r27 #[.int .u8 c, .int .u8 bk, .int .u8 fi, .int .u8 se] rfl yb (fun w hw => hw.1) (by rfl) _ rfl rfl) (by assumption) ?_
                try simp only [Act.put, List.setIfInBounds_toArray, List.set_cons_zero, List.set_cons_succ]
                refine wpAnyH_take (i := 3) (oi := { dst := some 69, op := Go.Op.move (Go.Operand.tmp 0), type := 25, pos := "ppu.go:131", after := #[], guard := none }) (v := ?v222) rfl (by kernel_rfl) (by kernel_rfl) (by kernel_rfl) (fun _ _ _ h => h) (Or.inl ⟨by rfl, ?y222⟩) (by assumption) ?z222
                case y222 => (intro w hSw; (try dsimp only at hSw); go_simp) <;> with_reducible rfl
                try simp only [Act.put, List.setIfInBounds_toArray, List.set_cons_zero, List.set_cons_succ]
                refine wpAnyH_take (i := 4) (oi := { dst := some 70, op := Go.Op.nilCheck (Go.Operand.tmp 69), type := 0, pos := "ppu.go:131", after := #[{ on := 3, ground := Go.Ground.data }], guard := none }) (v := ?v223) rfl (by kernel_rfl) (by kernel_rfl) (by kernel_rfl) (fun _ _ _ h => h) (Or.inl ⟨by rfl, ?y223⟩) (by assumption) ?z223
                case y223 => (intro w hSw; (try dsimp only at hSw); go_simp) <;> with_reducible rfl
                try simp only [Act.put, List.setIfInBounds_toArray, List.set_cons_zero, List.set_cons_succ]
                refine wpAnyH_take (i := 5) (oi := { dst := some 71, op := Go.Op.fieldAddr 61 (Go.Operand.tmp 70) 0, type := 0, pos := "ppu.go:131", after := #[{ on := 4, ground := Go.Ground.data }], guard := none }) (v := ?v224) rfl (by kernel_rfl) (by kernel_rfl) (by kernel_rfl) (fun _ _ _ h => h) (Or.inl ⟨by rfl, ?y224⟩) (by assumption) ?z224
                case y224 => (intro w hSw; (try dsimp only at hSw); go_simp) <;> with_reducible rfl
                try simp only [Act.put, List.setIfInBounds_toArray, List.set_cons_zero, List.set_cons_succ]
                refine wpAnyH_take (i := 6) (oi := { dst := some 72, op := Go.Op.slice 58 (Go.Operand.tmp 71) none none none, type := 31, pos := "ppu.go:131", after := #[{ on := 5, ground := Go.Ground.data }], guard := none }) (v := ?v225) rfl (by kernel_rfl) (by kernel_rfl) (by kernel_rfl) (fun _ _ _ h => h) (Or.inl ⟨by rfl, ?y225⟩) (by assumption) ?z225
                case y225 => (intro w hSw; (try dsimp only at hSw); go_simp) <;> with_reducible rfl
                try simp only [Act.put, List.setIfInBounds_toArray, List.set_cons_zero, List.set_cons_succ]
                refine wpAnyH_take (i := 7) (oi := { dst := some 73, op := Go.Op.move (Go.Operand.tmp 0), type := 25, pos := "ppu.go:131", after := #[], guard := none }) (v := ?v226) rfl (by kernel_rfl) (by kernel_rfl) (by kernel_rfl) (fun _ _ _ h => h) (Or.inl ⟨by rfl, ?y226⟩) (by assumption) ?z226
                case y226 => (intro w hSw; (try dsimp only at hSw); go_simp) <;> with_reducible rfl
                try simp only [Act.put, List.setIfInBounds_toArray, List.set_cons_zero, List.set_cons_succ]
                refine wpAnyH_take (i := 8) (oi := { dst := some 74, op := Go.Op.nilCheck (Go.Operand.tmp 73), type := 0, pos := "ppu.go:131", after := #[{ on := 7, ground := Go.Ground.data }], guard := none }) (v := ?v227) rfl (by kernel_rfl) (by kernel_rfl) (by kernel_rfl) (fun _ _ _ h => h) (Or.inl ⟨by rfl, ?y227⟩) (by assumption) ?z227
                case y227 => (intro w hSw; (try dsimp only at hSw); go_simp) <;> with_reducible rfl
                try simp only [Act.put, List.setIfInBounds_toArray, List.set_cons_zero, List.set_cons_succ]
                refine wpAnyH_take (i := 9) (oi := { dst := some 75, op := Go.Op.fieldAddr 61 (Go.Operand.tmp 74) 1, type := 0, pos := "ppu.go:131", after := #[{ on := 8, ground := Go.Ground.data }], guard := none }) (v := ?v228) rfl (by kernel_rfl) (by kernel_rfl) (by kernel_rfl) (fun _ _ _ h => h) (Or.inl ⟨by rfl, ?y228⟩) (by assumption) ?z228
                case y228 => (intro w hSw; (try dsimp only at hSw); go_simp) <;> with_reducible rfl
                try simp only [Act.put, List.setIfInBounds_toArray, List.set_cons_zero, List.set_cons_succ]
                refine wpAnyH_take (i := 10) (oi := { dst := some 76, op := Go.Op.slice 34 (Go.Operand.tmp 75) none none none, type := 31, pos := "ppu.go:131", after := #[{ on := 9, ground := Go.Ground.data }], guard := none }) (v := ?v229) rfl (by kernel_rfl) (by kernel_rfl) (by kernel_rfl) (fun _ _ _ h => h) (Or.inl ⟨by rfl, ?y229⟩) (by assumption) ?z229
                case y229 => (intro w hSw; (try dsimp only at hSw); go_simp) <;> with_reducible rfl
                try simp only [Act.put, List.setIfInBounds_toArray, List.set_cons_zero, List.set_cons_succ]
                refine wpAnyH_take (i := 11) (oi := { dst := some 77, op := Go.Op.move (Go.Operand.tmp 5), type := 3, pos := "ppu.go:131", after := #[], guard := none }) (v := ?v230) rfl (by kernel_rfl) (by kernel_rfl) (by kernel_rfl) (fun _ _ _ h => h) (Or.inl ⟨by rfl, ?y230⟩) (by assumption) ?z230
                case y230 => (intro w hSw; (try dsimp only at hSw); go_simp) <;> with_reducible rfl
                try simp only [Act.put, List.setIfInBounds_toArray, List.set_cons_zero, List.set_cons_succ]
                refine wpAnyH_take (i := 12) (oi := { dst := some 78, op := Go.Op.load 34 (Go.Operand.tmp 6), type := 34, pos := "ppu.go:131", after := #[], guard := none }) (v := .agg (enc U)) rfl (by kernel_rfl) (by kernel_rfl) (by kernel_rfl) (fun _ _ _ h => h) (yields_load r34 (enc U) (enc_size _) zb (fun w hw => hw.2) (by rfl) _ rfl rfl) (by assumption) ?_
                try simp only [Act.put, List.setIfInBounds_toArray, List.set_cons_zero, List.set_cons_succ]
                refine wpAnyH_take (i := 14) (oi := { dst := some 80, op := Go.Op.nilCheck (Go.Operand.tmp 66), type := 0, pos := "ppu.go:131", after := #[{ on := 0, ground := Go.Ground.data }], guard := none }) (v := ?v232) rfl (by kernel_rfl) (by kernel_rfl) (by kernel_rfl) (fun _ _ _ h => h) (Or.inl ⟨by rfl, ?y232⟩) (by assumption) ?z232
                case y232 => (intro w hSw; (try dsimp only at hSw); go_simp) <;> with_reducible rfl
                try simp only [Act.put, List.setIfInBounds_toArray, List.set_cons_zero, List.set_cons_succ]
                refine wpAnyH_take (i := 15) (oi := { dst := some 81, op := Go.Op.fieldAddr 61 (Go.Operand.tmp 80) 7, type := 0, pos := "ppu.go:131", after := #[{ on := 14, ground := Go.Ground.data }], guard := none }) (v := ?v233) rfl (by kernel_rfl) (by kernel_rfl) (by kernel_rfl) (fun _ _ _ h => h) (Or.inl ⟨by rfl, ?y233⟩) (by assumption) ?z233
                case y233 => (intro w hSw; (try dsimp only at hSw); go_simp) <;> with_reducible rfl
                try simp only [Act.put, List.setIfInBounds_toArray, List.set_cons_zero, List.set_cons_succ]
                refine wpAnyH_ready (rs := [13]) (by kernel_rfl) (by simp) ?_
                refine (AllReadyH.cons (o := { dst := some 79, op := Go.Op.call { callee := Go.Callee.value (Go.Operand.func 58), args := #[Go.Operand.tmp 68, Go.Operand.tmp 72, Go.Operand.tmp 76, Go.Operand.tmp 77, Go.Operand.tmp 78], argTypes := #[81, 31, 31, 3, 34] }, type := 34, pos := "ppu.go:131", after := #[{ on := 2, ground := Go.Ground.data }, { on := 6, ground := Go.Ground.data }, { on := 10, ground := Go.Ground.data }, { on := 11, ground := Go.Ground.data }, { on := 12, ground := Go.Ground.data }], guard := none }) rfl (fun K hK => ?_) AllReadyH.nil)
                · skip
                  go_simp
                  with_reducible refine ((HLK.out _ (mem_vid P11.out HB.out) (mem_oam P11.out HB.out))).mono ?_
                  rintro q_ u12 ⟨rfl, hb⟩
                  have P12 := Lib.hid (P11.out.below hb)
                  have K12 := Lib.hid (K11.out.trans (Keeps.of_below hb))
                  have X12 := Lib.hid (X11.out.below hb)
                  have Y12 := Lib.hid (Y11.out.below hb)
                  have Z12 := Lib.hid (Z11.out.below hb)
                  clear hb
                  clear P11 K11 X11 Y11 Z11
                  refine hK.out _ _ ?s234 (fun hNew => ?r234)
                  case s234 => exact ⟨range_of_has Y12.out, range_of_has Z12.out⟩
                  clear hK K hHeld
                  have hHeld := hNew
                  clear hNew
                  refine wpAnyH_take (i := 16) (oi := { dst := some 82, op := Go.Op.indexAddr 35 (Go.Operand.tmp 81) (Go.Operand.tmp 67), type := 0, pos := "ppu.go:131", after := #[{ on := 15, ground := Go.Ground.data }, { on := 1, ground := Go.Ground.data }, { on := 0, ground := Go.Ground.phase }, { on := 1, ground := Go.Ground.phase }, { on := 2, ground := Go.Ground.phase }, { on := 3, ground := Go.Ground.phase }, { on := 4, ground := Go.Ground.phase }, { on := 5, ground := Go.Ground.phase }, { on := 6, ground := Go.Ground.phase }, { on := 7, ground := Go.Ground.phase }, { on := 8, ground := Go.Ground.phase }, { on := 9, ground := Go.Ground.phase }, { on := 10, ground := Go.Ground.phase }, { on := 11, ground := Go.Ground.phase }, { on := 12, ground := Go.Ground.phase }, { on := 13, ground := Go.Ground.phase }], guard := none }) (v := ?v235) rfl (by kernel_rfl) (by kernel_rfl) (by kernel_rfl) (fun _ _ _ h => h) (Or.inl ⟨by rfl, ?y235⟩) (by assumption) ?z235
                  case y235 => (intro w hSw; (try dsimp only at hSw); go_simp) <;> with_reducible rfl
                  try simp only [Act.put, List.setIfInBounds_toArray, List.set_cons_zero, List.set_cons_succ]
                  refine wpAnyH_ready (rs := [17]) (by kernel_rfl) (by simp) ?_
                  refine (AllReadyH.cons (o := { dst := none, op := Go.Op.store 34 (Go.Operand.tmp 82) (Go.Operand.tmp 79), type := 0, pos := "ppu.go:131", after := #[{ on := 16, ground := Go.Ground.data }, { on := 13, ground := Go.Ground.data }, { on := 13, ground := Go.Ground.chain }, { on := 0, ground := Go.Ground.phase }, { on := 1, ground := Go.Ground.phase }, { on := 2, ground := Go.Ground.phase }, { on := 3, ground := Go.Ground.phase }, { on := 4, ground := Go.Ground.phase }, { on := 5, ground := Go.Ground.phase }, { on := 6, ground := Go.Ground.phase }, { on := 7, ground := Go.Ground.phase }, { on := 8, ground := Go.Ground.phase }, { on := 9, ground := Go.Ground.phase }, { on := 10, ground := Go.Ground.phase }, { on := 11, ground := Go.Ground.phase }, { on := 12, ground := Go.Ground.phase }, { on := 13, ground := Go.Ground.phase }], guard := none }) rfl (fun K hK => ?_) AllReadyH.nil)
                  · skip
                    refine wp_store_row P12.out R _ _ rfl (8367 + n * 160) rfl rfl (by omega) (by omega) ?_
                    intro u13 hP hk
                    try simp only [Act.put, List.setIfInBounds_toArray, List.set_cons_zero, List.set_cons_succ]
                    have P13 := Lib.hid hP
                    have K13 := Lib.hid (K12.out.trans hk)
                    have X13 := Lib.hid (hk.has (Ne.symm NX.out) X12.out)
                    have Y13 := Lib.hid (hk.has (Ne.symm NY.out) Y12.out)
                    have Z13 := Lib.hid (hk.has (Ne.symm NZ.out) Z12.out)
                    clear hP hk
                    clear P12 K12 X12 Y12 Z12
                    refine hK.out _ _ ?s236 (fun hNew => ?r236)
                    case s236 => exact ⟨range_of_has Y13.out, range_of_has Z13.out⟩
                    clear hK K hHeld
                    have hHeld := hNew
                    clear hNew
                    refine wpAnyH_done (by kernel_rfl) ?_ _
                    clear hHeld
                    go_wp2
                    all_goals first | exact bodyPost_ret (v := .tuple #[]) (by simp [results, Try.results44, go_sem]) rfl ⟨rfl, P13.out, K13.out⟩ | exact bodyPost_end (v := .tuple #[]) (by simp [results, Try.results44, go_sem]) rfl ⟨rfl, P13.out, K13.out⟩
end Go.Proofs.Ytpfbodmadmneiaa
