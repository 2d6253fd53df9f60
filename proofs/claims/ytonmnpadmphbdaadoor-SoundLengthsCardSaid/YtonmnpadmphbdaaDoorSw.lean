/-
  The hardware switched on and off, by value: for every board; no condition.
-/
import Derived.Test.YtonmnpadmphbdaaDoorBd
import Derived.Deep.Cut
import Derived.BigQuiet
import Derived.WalkSmall
import Derived.Deep.LoopGhost
namespace Go.Proofs.YtonmnpadmphbdaaDoor
open Go.ChangeShapes Go.WideShapes Go.ChangeAt Go.RowKit
set_option linter.unusedVariables false
set_option linter.unusedSimpArgs false
set_option maxRecDepth 100000
theorem enc_congr {m m2 : M} (h : ∀ o, o < 70 → m o = m2 o) : enc m = enc m2 := by
  apply Array.ext_getElem?
  intro i
  by_cases hi : i < 70
  · rw [enc_get _ _ hi, enc_get _ _ hi, h i hi]
  · rw [Array.getElem?_eq_none (by rw [enc_size]; omega), Array.getElem?_eq_none (by rw [enc_size]; omega)]
def cpl (m : M) : List Value := (List.range 26).map fun j => .int .u8 (m (22 + j))
theorem cpl_len (m : M) : (cpl m).length = 26 := by simp [cpl]
theorem cpl_get (m : M) (j : Nat) (h : j < 26) : (cpl m)[j]? = some (.int .u8 (m (22 + j))) := by simp [cpl, h]
theorem copy_b (w : World) (ob pb : Nat) (m mo : M) (ty : TypeId) (hO : Has w ob (enc mo)) (hP : Has w pb (enc m)) :
    (Builtin.copy_ #[50, 50] ty #[.slice (some ⟨ob, 22, none⟩) 26 26, .slice (some ⟨pb, 22, none⟩) 26 26]).run Tryd.prog w = .ok (.int .i64 26) (w.setCells ob 22 (cpl m)) := by
  have := run_copy_cells (P := Tryd.prog) w 50 50 ty 5 ob 22 26 26 ⟨pb, 22, none⟩ 26 26 (cpl m) Tryd.underlying50 (by kernel_rfl) (by rw [cpl_len]; rfl)
    (fun j v hv => by
      have hj : j < 26 := by have := (List.getElem?_eq_some_iff.1 hv).1; rwa [cpl_len] at this
      rw [cpl_get m j hj] at hv
      rw [show (⟨pb, 22, none⟩ : Addr).add j = ⟨pb, 22 + j, none⟩ from Addr.add_mid pb 22 j, hP.2.1, enc_u8 _ _ (by omega)]
      exact hv)
    (fun j hj => by rw [cpl_len] at hj; rw [hO.2.1, enc_get _ _ (by omega)]; rfl)
    (fun j hj => hO.2.2 _)
    (fun v hv => by unfold cpl at hv; obtain ⟨j, _, rfl⟩ := List.mem_map.1 hv; rfl)
  rw [this, cpl_len]; rfl
theorem copy_has {w : World} {ob : Nat} (m mo : M) (hO : Has w ob (enc mo)) : Has (w.setCells ob 22 (cpl m)) ob (enc (fun o => if 22 ≤ o ∧ o < 48 then m o else mo o)) := by
  refine ⟨Nat.lt_of_lt_of_le hO.1 (Keeps.setCells (b := ob) (cpl m) 22 (Keeps.refl ob w)).size, fun o => ?_, fun o => ?_⟩
  · by_cases ho : 22 ≤ o ∧ o < 48
    · have := World.cell?_setCells_in ob (cpl m) 22 w (fun i hi => by rw [cpl_len] at hi; rw [hO.2.1, enc_get _ _ (by omega)]; rfl) (o - 22) (by rw [cpl_len]; omega)
      rw [show 22 + (o - 22) = o by omega] at this
      rw [this, enc_u8 _ _ ho.2, if_pos ho, ← List.getElem?_eq_getElem, cpl_get m _ (by omega), show 22 + (o - 22) = o by omega]
    · rw [World.cell?_setCells_out ob (cpl m) 22 w ⟨ob, o, none⟩ (fun _ _ => by rw [cpl_len]; show o < 22 ∨ 22 + 26 ≤ o; omega), hO.2.1]
      by_cases hi : o < 70
      · rw [enc_get _ _ hi, enc_get _ _ hi, if_neg ho]
      · rw [Array.getElem?_eq_none (by rw [enc_size]; omega), Array.getElem?_eq_none (by rw [enc_size]; omega)]
  · rw [World.frozen?_setCells]; exact hO.2.2 o
set_option maxHeartbeats 2000000 in
theorem sw_on1 (m : M) (h48 : m 48 = 1) (w : World) : Calls Tryd.prog 15 #[.agg (enc m), .bool true] w fun q_ w' => q_ = .returned (.agg (enc (upd m 48 1))) ∧ Below w.heap.size w w' := by
  suffices hall : ∀ (n_ : Nat) (W0 : World), n_ ≤ W0.heap.size → Below n_ W0 w → Calls Tryd.prog 15 #[.agg (enc m), .bool true] w fun q_ w' => q_ = .returned (.agg (enc (upd m 48 1))) ∧ Below n_ W0 w' from hall _ _ (Nat.le_refl _) (Below.refl _ _)
  intro n_ W0 hn hB
  have HN := Lib.hid hn
  have BB := Lib.hid hB
  clear hn hB
  have H48 := Lib.hid h48
  clear h48
  have hz29 : ∀ w : World, (zeroValue 29).run Tryd.prog w = .ok (.agg (enc zeroM)) w := zero29
  have hnot : ∀ (x : Bool) (w : World), (Op.unary .not (.bool x)).run Tryd.prog w = .ok (.bool (!x)) w := fun _ _ => rfl
  go_enter Tryd.func15, Tryd.ntmps15
  have Q_ := own2 w (.cells (enc m) 29) (.cells (enc zeroM) 29)
  have B0 := Lib.hid (vian HN.out BB.out Q_)
  have P0 := Lib.hid (show Has ((w.alloc (.cells (enc m) 29)).alloc (.cells (enc zeroM) 29)) w.heap.size (enc m) by simpa using (Has.new w (enc m) 29).alloc (.cells (enc zeroM) 29))
  have LP := Lib.hid (show n_ ≤ w.heap.size + 0 from Nat.le_add_right_of_le (Nat.le_trans HN.out BB.out.size))
  have R0 := Lib.hid (show Has ((w.alloc (.cells (enc m) 29)).alloc (.cells (enc zeroM) 29)) (w.heap.size + 1) (enc zeroM) by simpa using Has.new (w.alloc (.cells (enc m) 29)) (enc zeroM) 29)
  have LR := Lib.hid (show n_ ≤ (w.heap.size + 1) from Nat.le_add_right_of_le (Nat.le_trans HN.out BB.out.size))
  have NPR := Lib.hid (show w.heap.size + 0 ≠ w.heap.size + 1 by omega)
  simp only [Nat.add_zero] at LP NPR
  clear Q_
  go_upto_region 1 with (fail)
  generalize ((w.alloc (.cells (enc m) 29)).alloc (.cells (enc zeroM) 29)) = u0 at B0 P0 R0 ⊢
  generalize w.heap.size + 1 = rb at R0 LR NPR ⊢
  generalize w.heap.size = pb at P0 LP NPR ⊢
  obtain ⟨hc, hf⟩ := P0.out.out
  have e0 : (enc (m))[48]? = some (.bool true) := by rw [enc_b _ _ rfl (by omega)]; rw [decide_eq_true H48.out]
  go_wp2_with (refine store_bo P0.out rfl _ _ rfl _ rfl _ rfl (by rfl) (by omega) ?_)
  intro u1 hP hk
  replace hP : Has u1 pb (enc (upd m 48 1)) := hP
  have P1 := Lib.hid hP
  have B1 := Lib.hid (hk.below HN.out LP.out B0.out)
  have R1 := Lib.hid (hk.has (Ne.symm NPR.out) R0.out)
  clear hk hP B0 P0 R0
  try simp only [Act.put]
  clear hc hf e0
  go_wp2_with (first | (refine load_b P1.out rfl _ rfl rfl ?_; simp only [Act.put, List.setIfInBounds_toArray, List.set_cons_zero, List.set_cons_succ]) | (refine store_b R1.out (upd m 48 1) rfl _ _ rfl rfl rfl ?_))
  intro u2 hP hk
  have R2 := Lib.hid hP
  have B2 := Lib.hid (hk.below HN.out LR.out B1.out)
  have P2 := Lib.hid (hk.has NPR.out P1.out)
  clear hk hP B1 P1 R1
  try simp only [Act.put]
  go_wp2_with (fail)
  all_goals exact bodyPost_ret (results_b rfl _ rfl R2.out) rfl ⟨rfl, B2.out⟩
set_option maxHeartbeats 2000000 in
theorem sw_on0 (m : M) (h48 : ¬ m 48 = 1) (w : World) : Calls Tryd.prog 15 #[.agg (enc m), .bool true] w fun q_ w' => q_ = .returned (.agg (enc (upd (upd (upd m 49 0) 50 0) 48 1))) ∧ Below w.heap.size w w' := by
  suffices hall : ∀ (n_ : Nat) (W0 : World), n_ ≤ W0.heap.size → Below n_ W0 w → Calls Tryd.prog 15 #[.agg (enc m), .bool true] w fun q_ w' => q_ = .returned (.agg (enc (upd (upd (upd m 49 0) 50 0) 48 1))) ∧ Below n_ W0 w' from hall _ _ (Nat.le_refl _) (Below.refl _ _)
  intro n_ W0 hn hB
  have HN := Lib.hid hn
  have BB := Lib.hid hB
  clear hn hB
  have H48 := Lib.hid h48
  clear h48
  have hz29 : ∀ w : World, (zeroValue 29).run Tryd.prog w = .ok (.agg (enc zeroM)) w := zero29
  have hnot : ∀ (x : Bool) (w : World), (Op.unary .not (.bool x)).run Tryd.prog w = .ok (.bool (!x)) w := fun _ _ => rfl
  go_enter Tryd.func15, Tryd.ntmps15
  have Q_ := own2 w (.cells (enc m) 29) (.cells (enc zeroM) 29)
  have B0 := Lib.hid (vian HN.out BB.out Q_)
  have P0 := Lib.hid (show Has ((w.alloc (.cells (enc m) 29)).alloc (.cells (enc zeroM) 29)) w.heap.size (enc m) by simpa using (Has.new w (enc m) 29).alloc (.cells (enc zeroM) 29))
  have LP := Lib.hid (show n_ ≤ w.heap.size + 0 from Nat.le_add_right_of_le (Nat.le_trans HN.out BB.out.size))
  have R0 := Lib.hid (show Has ((w.alloc (.cells (enc m) 29)).alloc (.cells (enc zeroM) 29)) (w.heap.size + 1) (enc zeroM) by simpa using Has.new (w.alloc (.cells (enc m) 29)) (enc zeroM) 29)
  have LR := Lib.hid (show n_ ≤ (w.heap.size + 1) from Nat.le_add_right_of_le (Nat.le_trans HN.out BB.out.size))
  have NPR := Lib.hid (show w.heap.size + 0 ≠ w.heap.size + 1 by omega)
  simp only [Nat.add_zero] at LP NPR
  clear Q_
  go_upto_region 1 with (fail)
  generalize ((w.alloc (.cells (enc m) 29)).alloc (.cells (enc zeroM) 29)) = u0 at B0 P0 R0 ⊢
  generalize w.heap.size + 1 = rb at R0 LR NPR ⊢
  generalize w.heap.size = pb at P0 LP NPR ⊢
  obtain ⟨hc, hf⟩ := P0.out.out
  have e0 : (enc (m))[48]? = some (.bool false) := by rw [enc_b _ _ rfl (by omega)]; rw [decide_eq_false H48.out]
  go_wp2_with (refine store_i P0.out rfl _ _ rfl _ rfl _ rfl (by rfl) (by omega) (by omega) ?_)
  intro u1 hP hk
  replace hP : Has u1 pb (enc (upd m 49 0)) := hP
  have P1 := Lib.hid hP
  have B1 := Lib.hid (hk.below HN.out LP.out B0.out)
  have R1 := Lib.hid (hk.has (Ne.symm NPR.out) R0.out)
  clear hk hP B0 P0 R0
  try simp only [Act.put]
  clear hc hf e0
  go_wp2_with (refine store_i P1.out rfl _ _ rfl _ rfl _ rfl (by rfl) (by omega) (by omega) ?_)
  intro u2 hP hk
  replace hP : Has u2 pb (enc (upd (upd m 49 0) 50 0)) := hP
  have P2 := Lib.hid hP
  have B2 := Lib.hid (hk.below HN.out LP.out B1.out)
  have R2 := Lib.hid (hk.has (Ne.symm NPR.out) R1.out)
  clear hk hP B1 P1 R1
  try simp only [Act.put]
  go_wp2_with (refine store_bo P2.out rfl _ _ rfl _ rfl _ rfl (by rfl) (by omega) ?_)
  intro u3 hP hk
  replace hP : Has u3 pb (enc (upd (upd (upd m 49 0) 50 0) 48 1)) := hP
  have P3 := Lib.hid hP
  have B3 := Lib.hid (hk.below HN.out LP.out B2.out)
  have R3 := Lib.hid (hk.has (Ne.symm NPR.out) R2.out)
  clear hk hP B2 P2 R2
  try simp only [Act.put]
  go_wp2_with (first | (refine load_b P3.out rfl _ rfl rfl ?_; simp only [Act.put, List.setIfInBounds_toArray, List.set_cons_zero, List.set_cons_succ]) | (refine store_b R3.out (upd (upd (upd m 49 0) 50 0) 48 1) rfl _ _ rfl rfl rfl ?_))
  intro u4 hP hk
  have R4 := Lib.hid hP
  have B4 := Lib.hid (hk.below HN.out LR.out B3.out)
  have P4 := Lib.hid (hk.has NPR.out P3.out)
  clear hk hP B3 P3 R3
  try simp only [Act.put]
  go_wp2_with (fail)
  all_goals exact bodyPost_ret (results_b rfl _ rfl R4.out) rfl ⟨rfl, B4.out⟩
set_option maxHeartbeats 2000000 in
theorem sw_off (m : M) (w : World) : Calls Tryd.prog 15 #[.agg (enc m), .bool false] w fun q_ w' => q_ = .returned (.agg (enc (offV m))) ∧ Below w.heap.size w w' := by
  suffices hall : ∀ (n_ : Nat) (W0 : World), n_ ≤ W0.heap.size → Below n_ W0 w → Calls Tryd.prog 15 #[.agg (enc m), .bool false] w fun q_ w' => q_ = .returned (.agg (enc (offV m))) ∧ Below n_ W0 w' from hall _ _ (Nat.le_refl _) (Below.refl _ _)
  intro n_ W0 hn hB
  have HN := Lib.hid hn
  have BB := Lib.hid hB
  clear hn hB
  have hz29 : ∀ w : World, (zeroValue 29).run Tryd.prog w = .ok (.agg (enc zeroM)) w := zero29
  have hnot : ∀ (x : Bool) (w : World), (Op.unary .not (.bool x)).run Tryd.prog w = .ok (.bool (!x)) w := fun _ _ => rfl
  go_enter Tryd.func15, Tryd.ntmps15
  have Q_ := own2 w (.cells (enc m) 29) (.cells (enc zeroM) 29)
  have B0 := Lib.hid (vian HN.out BB.out Q_)
  have P0 := Lib.hid (show Has ((w.alloc (.cells (enc m) 29)).alloc (.cells (enc zeroM) 29)) w.heap.size (enc m) by simpa using (Has.new w (enc m) 29).alloc (.cells (enc zeroM) 29))
  have LP := Lib.hid (show n_ ≤ w.heap.size + 0 from Nat.le_add_right_of_le (Nat.le_trans HN.out BB.out.size))
  have R0 := Lib.hid (show Has ((w.alloc (.cells (enc m) 29)).alloc (.cells (enc zeroM) 29)) (w.heap.size + 1) (enc zeroM) by simpa using Has.new (w.alloc (.cells (enc m) 29)) (enc zeroM) 29)
  have LR := Lib.hid (show n_ ≤ (w.heap.size + 1) from Nat.le_add_right_of_le (Nat.le_trans HN.out BB.out.size))
  have NPR := Lib.hid (show w.heap.size + 0 ≠ w.heap.size + 1 by omega)
  simp only [Nat.add_zero] at LP NPR
  clear Q_
  go_upto_region 1 with (fail)
  generalize ((w.alloc (.cells (enc m) 29)).alloc (.cells (enc zeroM) 29)) = u0 at B0 P0 R0 ⊢
  generalize w.heap.size + 1 = rb at R0 LR NPR ⊢
  generalize w.heap.size = pb at P0 LP NPR ⊢
  obtain ⟨hc, hf⟩ := P0.out.out
  have e49 := enc_i m 49 rfl (by omega) (by omega)
  have e50 := enc_i m 50 rfl (by omega) (by omega)
  have hsz := enc_size zeroM
  have hset : ((enc zeroM).setIfInBounds 49 (.int .i64 (m 49))).setIfInBounds 50 (.int .i64 (m 50)) = enc (upd (upd zeroM 49 (m 49)) 50 (m 50)) := by rw [enc_set_i _ _ _ rfl (by omega) (by omega), enc_set_i _ _ _ rfl (by omega) (by omega)]
  go_wp2_with (refine store_b (Has.new u0 (enc zeroM) 29) (upd (upd zeroM 49 (m 49)) 50 (m 50)) rfl _ _ rfl rfl rfl ?_)
  intro u1 hP hk
  have Q_ := own1 u0 (.cells (enc zeroM) 29)
  have LO := Lib.hid (show n_ ≤ u0.heap.size from Nat.le_trans HN.out B0.out.size)
  have NPO := Lib.hid (show pb ≠ u0.heap.size from Nat.ne_of_lt P0.out.1)
  have NRO := Lib.hid (show rb ≠ u0.heap.size from Nat.ne_of_lt R0.out.1)
  have B1 := Lib.hid (hk.below HN.out LO.out (vian HN.out B0.out Q_))
  have P1 := Lib.hid (hk.has NPO.out (P0.out.below Q_))
  have R1 := Lib.hid (hk.has NRO.out (R0.out.below Q_))
  have O1 := Lib.hid hP
  generalize u0.heap.size = ob at LO NPO NRO O1 ⊢
  clear hk hP Q_ B0 P0 R0 hc hf e49 e50 hset hsz
  try simp only [Act.put, List.setIfInBounds_toArray, List.set_cons_zero, List.set_cons_succ]
  go_upto_region 3 with (fail)
  have B2 := Lib.hid B1.out.drew
  have P2 := Lib.hid P1.out.drew
  have R2 := Lib.hid R1.out.drew
  have O2 := Lib.hid O1.out.drew
  clear B1 P1 R1 O1
  refine wp_region_held_drew (S := (fun w' => True)) (by kernel_rfl) trivial (fun hHeld => ?_)
  generalize World.drew _ = u2 at hHeld B2 P2 R2 O2 ⊢
  refine wpAnyH_take (i := 0) (oi := { dst := some 13, op := Go.Op.fieldAddr 29 (Go.Operand.tmp 5) 0, type := 0, pos := "sound.go:129", after := #[], guard := none }) (v := ?v1) rfl (by kernel_rfl) (by kernel_rfl) (by kernel_rfl) (fun _ _ _ h => h) (Or.inl ⟨by rfl, ?y1⟩) (by assumption) ?z1
  case y1 => (intro w hSw; (try dsimp only at hSw); go_simp) <;> with_reducible rfl
  try simp only [Act.put, List.setIfInBounds_toArray, List.set_cons_zero, List.set_cons_succ]
  refine wpAnyH_take (i := 1) (oi := { dst := some 14, op := Go.Op.slice 24 (Go.Operand.tmp 13) (some (Go.Operand.const (Go.Value.int Go.IntKind.i64 22))) none none, type := 50, pos := "sound.go:129", after := #[{ on := 0, ground := Go.Ground.data }], guard := none }) (v := ?v2) rfl (by kernel_rfl) (by kernel_rfl) (by kernel_rfl) (fun _ _ _ h => h) (Or.inl ⟨by rfl, ?y2⟩) (by assumption) ?z2
  case y2 => (intro w hSw; (try dsimp only at hSw); go_simp) <;> with_reducible rfl
  try simp only [Act.put, List.setIfInBounds_toArray, List.set_cons_zero, List.set_cons_succ]
  refine wpAnyH_take (i := 2) (oi := { dst := some 15, op := Go.Op.fieldAddr 29 (Go.Operand.tmp 2) 0, type := 0, pos := "sound.go:129", after := #[], guard := none }) (v := ?v3) rfl (by kernel_rfl) (by kernel_rfl) (by kernel_rfl) (fun _ _ _ h => h) (Or.inl ⟨by rfl, ?y3⟩) (by assumption) ?z3
  case y3 => (intro w hSw; (try dsimp only at hSw); go_simp) <;> with_reducible rfl
  try simp only [Act.put, List.setIfInBounds_toArray, List.set_cons_zero, List.set_cons_succ]
  refine wpAnyH_take (i := 3) (oi := { dst := some 16, op := Go.Op.slice 24 (Go.Operand.tmp 15) (some (Go.Operand.const (Go.Value.int Go.IntKind.i64 22))) none none, type := 50, pos := "sound.go:129", after := #[{ on := 2, ground := Go.Ground.data }], guard := none }) (v := ?v4) rfl (by kernel_rfl) (by kernel_rfl) (by kernel_rfl) (fun _ _ _ h => h) (Or.inl ⟨by rfl, ?y4⟩) (by assumption) ?z4
  case y4 => (intro w hSw; (try dsimp only at hSw); go_simp) <;> with_reducible rfl
  try simp only [Act.put, List.setIfInBounds_toArray, List.set_cons_zero, List.set_cons_succ]
  refine wpAnyH_ready (rs := [4]) (by kernel_rfl) (by simp) ?_
  refine (AllReadyH.cons (o := { dst := some 17, op := Go.Op.call { callee := Go.Callee.builtin Go.Builtin.copy, args := #[Go.Operand.tmp 14, Go.Operand.tmp 16], argTypes := #[50, 50] }, type := 3, pos := "sound.go:129", after := #[{ on := 1, ground := Go.Ground.data }, { on := 3, ground := Go.Ground.data }], guard := none }) rfl (fun K hK => ?_) AllReadyH.nil)
  · skip
    have hcp := fun ty => copy_b u2 ob pb m _ ty O2.out P2.out
    go_simp
    clear hcp
    have hk := (Keeps.refl ob u2).setCells (cpl m) 22
    have O3 := Lib.hid (copy_has m _ O2.out)
    have B3 := Lib.hid (hk.below HN.out LO.out B2.out)
    have P3 := Lib.hid (hk.has NPO.out P2.out)
    have R3 := Lib.hid (hk.has NRO.out R2.out)
    clear hk B2 P2 R2 O2
    refine hK.out _ _ ?s5 (fun hNew => ?r5)
    case s5 => exact trivial
    clear hK K hHeld
    have hHeld := hNew
    clear hNew
    generalize World.setCells _ _ _ _ = u3 at hHeld B3 P3 R3 O3 ⊢
    refine wpAnyH_done (by kernel_rfl) ?_ _
    clear hHeld
    go_wp2_with (first | (refine load_b O3.out rfl _ rfl rfl ?_; simp only [Act.put, List.setIfInBounds_toArray, List.set_cons_zero, List.set_cons_succ]) | (refine store_b R3.out _ rfl _ _ rfl rfl rfl ?_))
    intro u4 hP hk
    have R4 := Lib.hid hP
    have B4 := Lib.hid (hk.below HN.out LR.out B3.out)
    try simp only [Act.put]
    go_wp2
    have he : enc (fun o => if 22 ≤ o ∧ o < 48 then m o else upd (upd zeroM 49 (m 49)) 50 (m 50) o) = enc (offV m) := enc_congr (fun o _ => by unfold offV upd zeroM; repeat' split <;> (first | rfl | omega))
    rw [he] at R4
    all_goals exact bodyPost_ret (results_b rfl _ rfl R4.out) rfl ⟨rfl, B4.out⟩
theorem switched_c (m : M) (z : Bool) (w : World) : Calls Tryd.prog 15 #[.agg (enc m), .bool z] w fun q_ w' => q_ = .returned (.agg (enc (if z = true then onV m else offV m))) ∧ Below w.heap.size w w' := by
  cases z
  · exact sw_off m w
  · unfold onV
    by_cases g : m 48 = 1
    · rw [if_pos g]; exact sw_on1 m g w
    · rw [if_neg g]; exact sw_on0 m g w
end Go.Proofs.YtonmnpadmphbdaaDoor
