/-
  The walk through SoundOff: for every slice of calls; no condition but that each number fits, and that the table lies as it is laid.
-/
import Derived.Test.YtonmnpadmphbdaaDoorEq
import Derived.Deep.Cut
import Derived.BigQuiet
import Derived.WalkSmall
import Derived.Deep.LoopGhost
namespace Go.Proofs.YtonmnpadmphbdaaDoor
open Go.ChangeShapes Go.WideShapes Go.ChangeAt Go.RowKit
set_option linter.unusedVariables false
set_option linter.unusedSimpArgs false
set_option maxRecDepth 100000
theorem yields_eq {ops : Array Oper} {S : World → Prop} {op : Oper} {a : Act} (m : M) (hw : Region.wanted op (yielded ops a.tmps) = true) (x y : Operand) (ho : op.op = .binOp .eql 29 x y 29)
    (hx : a.eval x = .agg (enc m)) (hy : a.eval y = .agg (enc m)) : YieldsIf Tryd.prog ops S op (.bool true) a :=
  .inl ⟨hw, fun w _ => by
    unfold execOp
    simp only [ho, hx, hy]
    have h1 := run_eqGuard_agg (P := Tryd.prog) w .eql 29 x y (enc m) (enc m) (by kernel_rfl)
    have h2 := run_eql_struct (P := Tryd.prog) w 29 (enc m) (enc m)
    rw [eq_board] at h2
    simp [Sem.run_bind, h1, h2, Result.andThen]⟩
theorem yields_load {ops : Array Oper} {S : World → Prop} {op : Oper} {a : Act} (m : M) (b : Nat) (hS : ∀ w, S w → w.rangeAt b 0 (enc m).toList) (hw : Region.wanted op (yielded ops a.tmps) = true) (x : Operand) (ho : op.op = .load 29 x)
    (hx : a.eval x = .pointer (some ⟨b, 0, none⟩)) : YieldsIf Tryd.prog ops S op (.agg (enc m)) a := by
  obtain ⟨fs, hu⟩ := under29
  simpa using yieldsIf_load_mid (P := Tryd.prog) (ops := ops) (S := S) hw 29 x ho b 0 hx (enc m).toList (.struct fs) hS hu rfl (by rw [info29]; simp [enc_size])
set_option maxHeartbeats 2000000 in
theorem off_long (a : Option Addr) (n c : Nat) (k x : Int) (h0 : 40 < n) (w : World) (hg : Glob w) : Calls Tryd.prog 5 #[.slice a n c, .int .i64 k, .int .u8 x] w fun q_ w' => q_ = .returned (.bool true) ∧ Below w.heap.size w w' := by
  suffices hall : ∀ (n_ : Nat) (W0 : World), n_ ≤ W0.heap.size → Below n_ W0 w → Glob W0 → 0 < n_ → Calls Tryd.prog 5 #[.slice a n c, .int .i64 k, .int .u8 x] w fun q_ w' => q_ = .returned (.bool true) ∧ Below n_ W0 w' from hall _ _ (Nat.le_refl _) (Below.refl _ _) hg hg.1
  clear hg
  intro n_ W0 hn hB hG hn0
  have HN := Lib.hid hn
  have BB := Lib.hid hB
  have HG := Lib.hid hG
  have N0 := Lib.hid hn0
  clear hn hB hG hn0
  have h0I : (40 : Int) < n := by omega
  have AW := Lib.hid awake_c
  have hnot : ∀ (x : Bool) (w : World), (Op.unary .not (.bool x)).run Tryd.prog w = .ok (.bool (!x)) w := fun _ _ => rfl
  go_enter Tryd.func5, Tryd.ntmps5
  go_wp2_with (fail)
  with_reducible refine (AW.out _ (HG.out.below N0.out BB.out)).mono ?_
  rintro q_ u1 ⟨rfl, hb⟩
  have B1 := Lib.hid (vian HN.out BB.out hb)
  clear hb 
  go_wp2_with (fail)
  with_reducible refine (AW.out _ (HG.out.below N0.out B1.out)).mono ?_
  rintro q_ u2 ⟨rfl, hb⟩
  have B2 := Lib.hid (vian HN.out B1.out hb)
  clear hb B1
  go_wp2_with (fail)
  go_ret
  exact ⟨rfl, B2.out⟩
set_option maxHeartbeats 8000000 in
theorem off_w (a : Option Addr) (n c : Nat) (f g h : Nat → Int) (hh : ∀ i, 0 ≤ h i ∧ h i < 256) (k x : Int) (hn4 : n ≤ 40) (g0 : 0 ≤ x) (g1 : x < 256) (j : Nat) (hj : k = j) (h32 : 32 ≤ j) (h48 : j < 48)  (w : World) (hmem : (0 < n → ∃ qb qo, a = some ⟨qb, qo, none⟩ ∧ qb < w.heap.size ∧ ∀ j, j < n → w.cell? ⟨qb, qo + j * 3, none⟩ = some (.int .i64 (f j)) ∧ w.cell? ⟨qb, qo + j * 3 + 1, none⟩ = some (.int .i64 (g j)) ∧ w.cell? ⟨qb, qo + j * 3 + 2, none⟩ = some (.int .u8 (h j)))) (hg : Glob w) : Calls Tryd.prog 5 #[.slice a n c, .int .i64 k, .int .u8 x] w fun q_ w' => q_ = .returned (.bool true) ∧ Below w.heap.size w w' := by
  suffices hall : ∀ (n_ : Nat) (W0 : World), n_ ≤ W0.heap.size → Below n_ W0 w → (0 < n → ∃ qb qo, a = some ⟨qb, qo, none⟩ ∧ qb < n_ ∧ ∀ j, j < n → W0.cell? ⟨qb, qo + j * 3, none⟩ = some (.int .i64 (f j)) ∧ W0.cell? ⟨qb, qo + j * 3 + 1, none⟩ = some (.int .i64 (g j)) ∧ W0.cell? ⟨qb, qo + j * 3 + 2, none⟩ = some (.int .u8 (h j))) → Glob W0 → 0 < n_ → Calls Tryd.prog 5 #[.slice a n c, .int .i64 k, .int .u8 x] w fun q_ w' => q_ = .returned (.bool true) ∧ Below n_ W0 w' from hall _ _ (Nat.le_refl _) (Below.refl _ _) hmem hg hg.1
  clear hg
  intro n_ W0 hn hB hI hG hn0
  have HN := Lib.hid hn
  have BB := Lib.hid hB
  have HIN := Lib.hid hI
  have HH := Lib.hid hh
  clear hn hB hI hmem hh
  have HG := Lib.hid hG
  have N0 := Lib.hid hn0
  clear hG hn0
  have h0I : ¬ (40 : Int) < n := by omega
  have AW := Lib.hid awake_c
  have b127 := a127 x g0 g1
  obtain ⟨m0, hm0⟩ : ∃ q_, playN f g h n = q_ := ⟨_, rfl⟩
  have k0 : okM m0 := hm0 ▸ ok_play f g h HH.out n
  have SP := Lib.hid (fun W hmem => play_c a n c f g h HH.out hn4 W hmem)
  rw [hm0] at SP
  obtain ⟨mb, hmb⟩ : ∃ q_, offV m0 = q_ := ⟨_, rfl⟩
  have SW := Lib.hid (fun W => (write_c m0 k0 22 (x % 128) (by omega) (by omega) W))
  have hwb : writeV m0 22 (x % 128) = mb := by unfold writeV; rw [if_pos rfl, if_neg (by omega)]; exact hmb
  rw [hwb] at SW
  have k1 : okM mb := hmb ▸ ok_off k0
  have SX := Lib.hid (fun W => write_c mb k1 k x g0 g1 W)
  obtain ⟨mc, hmc⟩ : ∃ q_, writeV mb k x = q_ := ⟨_, rfl⟩
  rw [hmc] at SX
  have RQ := Lib.hid (fun (i : Nat) (hi : i < 22) => (show readV mb i = readV zeroM i from hmb ▸ zero_is i m0 hi))
  have S22 := Lib.hid (fun W hW => read_c mb 22 W hW)
  rw [show readV mb 22 = 112 from hmb ▸ read_off22 m0] at S22
  have SR := Lib.hid (fun W hW => read_c mc k W hW)
  have hr2 : readV mc k = x := by rw [← hmc, ← hmb, hj]; exact write_wave m0 j x g0 g1 h32 h48
  rw [hr2] at SR
  have q1 : decide (32 ≤ k) = true := by simp; omega
  have q2 : decide (k < 48) = true := by simp; omega
  clear hr2 hmc hmb hwb k0 k1 hm0 hj h32 h48
  have hz29 : ∀ w : World, (zeroValue 29).run Tryd.prog w = .ok (.agg (enc zeroM)) w := zero29
  have hnot : ∀ (x : Bool) (w : World), (Op.unary .not (.bool x)).run Tryd.prog w = .ok (.bool (!x)) w := fun _ _ => rfl
  go_enter Tryd.func5, Tryd.ntmps5
  go_wp2_with (fail)
  with_reducible refine (AW.out _ (HG.out.below N0.out BB.out)).mono ?_
  rintro q_ u1 ⟨rfl, hb⟩
  have B1 := Lib.hid (vian HN.out BB.out hb)
  clear hb 
  go_wp2_with (fail)
  with_reducible refine (SP.out _ (fun hp => by obtain ⟨qb, qo, e1, e2, e3⟩ := HIN.out hp; exact ⟨qb, qo, e1, Nat.lt_of_lt_of_le (Nat.lt_of_lt_of_le e2 HN.out) B1.out.size, fun i hi => ⟨(B1.out.cell (p := ⟨qb, qo + i * 3, none⟩) e2).trans (e3 i hi).1, (B1.out.cell (p := ⟨qb, qo + i * 3 + 1, none⟩) e2).trans (e3 i hi).2.1, (B1.out.cell (p := ⟨qb, qo + i * 3 + 2, none⟩) e2).trans (e3 i hi).2.2⟩⟩)).mono ?_
  rintro q_ u2 ⟨rfl, hb⟩
  have B2 := Lib.hid (vian HN.out B1.out hb)
  clear hb B1
  go_wp2_with (fail)
  with_reducible refine (SW.out _).mono ?_
  rintro q_ u3 ⟨rfl, hb⟩
  have B3 := Lib.hid (vian HN.out B2.out hb)
  clear hb B2
  go_wp2_with (refine store_b (Has.new u3 (enc zeroM) 29) (mb) rfl _ _ rfl rfl rfl ?_)
  intro u4 hP hk
  have Q_ := own1 u3 (.cells (enc zeroM) 29)
  have LP := Lib.hid (show n_ ≤ u3.heap.size from Nat.le_trans HN.out B3.out.size)
  have B4 := Lib.hid (hk.below HN.out LP.out (vian HN.out B3.out Q_))
  have P4 := Lib.hid hP
  generalize u3.heap.size = pb at LP  P4 ⊢
  clear hk hP Q_ B3
  try simp only [Act.put, List.setIfInBounds_toArray, List.set_cons_zero, List.set_cons_succ]
  go_wp2
  go_loopg [23] 22 (fun g' i w5 => ∃ (t : Nat), t ≤ 22 ∧ g' + t = 22 ∧ i = .int .i64 t ∧ Below n_ W0 w5 ∧ Has w5 pb (enc mb))
  case atStart => exact ⟨0, by omega, by omega, rfl, B4.out, P4.out⟩
  case round =>
    obtain ⟨u20, hw5⟩ : ∃ q_, q_ = wr := ⟨_, rfl⟩
    subst hw5
    obtain ⟨t, ht, hg, rfl, hB, hP⟩ := hrel
    have TG := Lib.hid hg
    have B20 := Lib.hid hB
    have P20 := Lib.hid hP
    clear hg hB hP B4 P4
    by_cases hlt : t < 22
    · have l1 : (t : Int) < 22 := by omega
      obtain ⟨r, hr⟩ : ∃ q_, readV zeroM t = q_ := ⟨_, rfl⟩
      have R1 := Lib.hid (fun W hW => read_c mb t W hW)
      have R2 := Lib.hid (fun W hW => read_c zeroM t W hW)
      rw [RQ.out t hlt, hr] at R1
      rw [hr] at R2
      clear hr
      go_wp2_with (first | ((first | (refine load_b P20.out rfl _ rfl rfl ?_) | (refine load_bg P20.out rfl _ rfl rfl ?_)); simp only [Act.put, List.setIfInBounds_toArray, List.set_cons_zero, List.set_cons_succ]))
      with_reducible refine (R1.out _ (HG.out.below N0.out B20.out)).mono ?_
      rintro q_ u21 ⟨rfl, hb⟩
      have B21 := Lib.hid (vian HN.out B20.out hb)
      have P21 := Lib.hid (P20.out.below hb)
      clear hb B20 P20
      go_wp2_with (fail)
      with_reducible refine (R2.out _ (HG.out.below N0.out B21.out)).mono ?_
      rintro q_ u22 ⟨rfl, hb⟩
      have B22 := Lib.hid (vian HN.out B21.out hb)
      have P22 := Lib.hid (P21.out.below hb)
      clear hb B21 P21
      go_wp2
      go_roundg (22 - (t + 1))
      case measure => have := TG.out; omega
      case rel => exact ⟨t + 1, by omega, by have := TG.out; omega, by simp, B22.out, P22.out⟩
    · have l1 : ¬ (t : Int) < 22 := by omega
      go_wp2_with (first | ((first | (refine load_b P20.out rfl _ rfl rfl ?_) | (refine load_bg P20.out rfl _ rfl rfl ?_)); simp only [Act.put, List.setIfInBounds_toArray, List.set_cons_zero, List.set_cons_succ]))
      with_reducible refine (SX.out _).mono ?_
      rintro q_ u21 ⟨rfl, hb⟩
      have B21 := Lib.hid (vian HN.out B20.out hb)
      have P21 := Lib.hid (P20.out.below hb)
      clear hb B20 P20
      go_wp2_with (refine store_b (Has.new u21 (enc zeroM) 29) (mc) rfl _ _ rfl rfl rfl ?_)
      intro u22 hP hk
      have Q_ := own1 u21 (.cells (enc zeroM) 29)
      have LC := Lib.hid (show n_ ≤ u21.heap.size from Nat.le_trans HN.out B21.out.size)
      have NPC := Lib.hid (show pb ≠ u21.heap.size from Nat.ne_of_lt P21.out.1)
      have B22 := Lib.hid (hk.below HN.out LC.out (vian HN.out B21.out Q_))
      have P22 := Lib.hid (hk.has NPC.out (P21.out.below Q_))
      have C22 := Lib.hid hP
      generalize u21.heap.size = cb at LC NPC C22 ⊢
      clear hk hP Q_ B21 P21
      try simp only [Act.put, List.setIfInBounds_toArray, List.set_cons_zero, List.set_cons_succ]
      go_wp2_with (first | ((first | (refine load_b C22.out rfl _ rfl rfl ?_) | (refine load_bg C22.out rfl _ rfl rfl ?_)); simp only [Act.put, List.setIfInBounds_toArray, List.set_cons_zero, List.set_cons_succ]))
      with_reducible refine (SR.out _ (HG.out.below N0.out B22.out)).mono ?_
      rintro q_ u23 ⟨rfl, hb⟩
      have B23 := Lib.hid (vian HN.out B22.out hb)
      have P23 := Lib.hid (P22.out.below hb)
      have C23 := Lib.hid (C22.out.below hb)
      clear hb B22 P22 C22
      go_wp2_with (first | ((first | (refine load_b P23.out rfl _ rfl rfl ?_) | (refine load_bg P23.out rfl _ rfl rfl ?_)); simp only [Act.put, List.setIfInBounds_toArray, List.set_cons_zero, List.set_cons_succ]))
      with_reducible refine (S22.out _ (HG.out.below N0.out B23.out)).mono ?_
      rintro q_ u24 ⟨rfl, hb⟩
      have B24 := Lib.hid (vian HN.out B23.out hb)
      have P24 := Lib.hid (P23.out.below hb)
      have C24 := Lib.hid (C23.out.below hb)
      clear hb B23 P23 C23
      go_wp2_with (fail)
      all_goals exact bodyPost_ret (v := .bool true) (by simp [results, Tryd.results5, go_sem]) rfl ⟨rfl, B24.out⟩
set_option maxHeartbeats 8000000 in
theorem off_p (a : Option Addr) (n c : Nat) (f g h : Nat → Int) (hh : ∀ i, 0 ≤ h i ∧ h i < 256) (k x : Int) (hn4 : n ≤ 40) (g0 : 0 ≤ x) (g1 : x < 256) (hk : k = 22)  (w : World) (hmem : (0 < n → ∃ qb qo, a = some ⟨qb, qo, none⟩ ∧ qb < w.heap.size ∧ ∀ j, j < n → w.cell? ⟨qb, qo + j * 3, none⟩ = some (.int .i64 (f j)) ∧ w.cell? ⟨qb, qo + j * 3 + 1, none⟩ = some (.int .i64 (g j)) ∧ w.cell? ⟨qb, qo + j * 3 + 2, none⟩ = some (.int .u8 (h j)))) (hg : Glob w) : Calls Tryd.prog 5 #[.slice a n c, .int .i64 k, .int .u8 x] w fun q_ w' => q_ = .returned (.bool true) ∧ Below w.heap.size w w' := by
  suffices hall : ∀ (n_ : Nat) (W0 : World), n_ ≤ W0.heap.size → Below n_ W0 w → (0 < n → ∃ qb qo, a = some ⟨qb, qo, none⟩ ∧ qb < n_ ∧ ∀ j, j < n → W0.cell? ⟨qb, qo + j * 3, none⟩ = some (.int .i64 (f j)) ∧ W0.cell? ⟨qb, qo + j * 3 + 1, none⟩ = some (.int .i64 (g j)) ∧ W0.cell? ⟨qb, qo + j * 3 + 2, none⟩ = some (.int .u8 (h j))) → Glob W0 → 0 < n_ → Calls Tryd.prog 5 #[.slice a n c, .int .i64 k, .int .u8 x] w fun q_ w' => q_ = .returned (.bool true) ∧ Below n_ W0 w' from hall _ _ (Nat.le_refl _) (Below.refl _ _) hmem hg hg.1
  clear hg
  intro n_ W0 hn hB hI hG hn0
  have HN := Lib.hid hn
  have BB := Lib.hid hB
  have HIN := Lib.hid hI
  have HH := Lib.hid hh
  clear hn hB hI hmem hh
  have HG := Lib.hid hG
  have N0 := Lib.hid hn0
  clear hG hn0
  have h0I : ¬ (40 : Int) < n := by omega
  have AW := Lib.hid awake_c
  have b127 := a127 x g0 g1
  obtain ⟨m0, hm0⟩ : ∃ q_, playN f g h n = q_ := ⟨_, rfl⟩
  have k0 : okM m0 := hm0 ▸ ok_play f g h HH.out n
  have SP := Lib.hid (fun W hmem => play_c a n c f g h HH.out hn4 W hmem)
  rw [hm0] at SP
  obtain ⟨mb, hmb⟩ : ∃ q_, offV m0 = q_ := ⟨_, rfl⟩
  have SW := Lib.hid (fun W => (write_c m0 k0 22 (x % 128) (by omega) (by omega) W))
  have hwb : writeV m0 22 (x % 128) = mb := by unfold writeV; rw [if_pos rfl, if_neg (by omega)]; exact hmb
  rw [hwb] at SW
  have k1 : okM mb := hmb ▸ ok_off k0
  have SX := Lib.hid (fun W => write_c mb k1 k x g0 g1 W)
  obtain ⟨mc, hmc⟩ : ∃ q_, writeV mb k x = q_ := ⟨_, rfl⟩
  rw [hmc] at SX
  have RQ := Lib.hid (fun (i : Nat) (hi : i < 22) => (show readV mb i = readV zeroM i from hmb ▸ zero_is i m0 hi))
  have S22 := Lib.hid (fun W hW => read_c mb 22 W hW)
  rw [show readV mb 22 = 112 from hmb ▸ read_off22 m0] at S22
  have ST := Lib.hid (fun W => tick_c mb k1 W)
  rw [show tickV mb = mb from hmb ▸ tick_still m0] at ST
  have q1 : decide (32 ≤ k) = false := by simp; omega
  clear hmc hmb hwb k0 k1 hm0
  subst hk
  have hz29 : ∀ w : World, (zeroValue 29).run Tryd.prog w = .ok (.agg (enc zeroM)) w := zero29
  have hnot : ∀ (x : Bool) (w : World), (Op.unary .not (.bool x)).run Tryd.prog w = .ok (.bool (!x)) w := fun _ _ => rfl
  go_enter Tryd.func5, Tryd.ntmps5
  go_wp2_with (fail)
  with_reducible refine (AW.out _ (HG.out.below N0.out BB.out)).mono ?_
  rintro q_ u1 ⟨rfl, hb⟩
  have B1 := Lib.hid (vian HN.out BB.out hb)
  clear hb 
  go_wp2_with (fail)
  with_reducible refine (SP.out _ (fun hp => by obtain ⟨qb, qo, e1, e2, e3⟩ := HIN.out hp; exact ⟨qb, qo, e1, Nat.lt_of_lt_of_le (Nat.lt_of_lt_of_le e2 HN.out) B1.out.size, fun i hi => ⟨(B1.out.cell (p := ⟨qb, qo + i * 3, none⟩) e2).trans (e3 i hi).1, (B1.out.cell (p := ⟨qb, qo + i * 3 + 1, none⟩) e2).trans (e3 i hi).2.1, (B1.out.cell (p := ⟨qb, qo + i * 3 + 2, none⟩) e2).trans (e3 i hi).2.2⟩⟩)).mono ?_
  rintro q_ u2 ⟨rfl, hb⟩
  have B2 := Lib.hid (vian HN.out B1.out hb)
  clear hb B1
  go_wp2_with (fail)
  with_reducible refine (SW.out _).mono ?_
  rintro q_ u3 ⟨rfl, hb⟩
  have B3 := Lib.hid (vian HN.out B2.out hb)
  clear hb B2
  go_wp2_with (refine store_b (Has.new u3 (enc zeroM) 29) (mb) rfl _ _ rfl rfl rfl ?_)
  intro u4 hP hk
  have Q_ := own1 u3 (.cells (enc zeroM) 29)
  have LP := Lib.hid (show n_ ≤ u3.heap.size from Nat.le_trans HN.out B3.out.size)
  have B4 := Lib.hid (hk.below HN.out LP.out (vian HN.out B3.out Q_))
  have P4 := Lib.hid hP
  generalize u3.heap.size = pb at LP  P4 ⊢
  clear hk hP Q_ B3
  try simp only [Act.put, List.setIfInBounds_toArray, List.set_cons_zero, List.set_cons_succ]
  go_wp2
  go_loopg [23] 22 (fun g' i w5 => ∃ (t : Nat), t ≤ 22 ∧ g' + t = 22 ∧ i = .int .i64 t ∧ Below n_ W0 w5 ∧ Has w5 pb (enc mb))
  case atStart => exact ⟨0, by omega, by omega, rfl, B4.out, P4.out⟩
  case round =>
    obtain ⟨u20, hw5⟩ : ∃ q_, q_ = wr := ⟨_, rfl⟩
    subst hw5
    obtain ⟨t, ht, hg, rfl, hB, hP⟩ := hrel
    have TG := Lib.hid hg
    have B20 := Lib.hid hB
    have P20 := Lib.hid hP
    clear hg hB hP B4 P4
    by_cases hlt : t < 22
    · have l1 : (t : Int) < 22 := by omega
      obtain ⟨r, hr⟩ : ∃ q_, readV zeroM t = q_ := ⟨_, rfl⟩
      have R1 := Lib.hid (fun W hW => read_c mb t W hW)
      have R2 := Lib.hid (fun W hW => read_c zeroM t W hW)
      rw [RQ.out t hlt, hr] at R1
      rw [hr] at R2
      clear hr
      go_wp2_with (first | ((first | (refine load_b P20.out rfl _ rfl rfl ?_) | (refine load_bg P20.out rfl _ rfl rfl ?_)); simp only [Act.put, List.setIfInBounds_toArray, List.set_cons_zero, List.set_cons_succ]))
      with_reducible refine (R1.out _ (HG.out.below N0.out B20.out)).mono ?_
      rintro q_ u21 ⟨rfl, hb⟩
      have B21 := Lib.hid (vian HN.out B20.out hb)
      have P21 := Lib.hid (P20.out.below hb)
      clear hb B20 P20
      go_wp2_with (fail)
      with_reducible refine (R2.out _ (HG.out.below N0.out B21.out)).mono ?_
      rintro q_ u22 ⟨rfl, hb⟩
      have B22 := Lib.hid (vian HN.out B21.out hb)
      have P22 := Lib.hid (P21.out.below hb)
      clear hb B21 P21
      go_wp2
      go_roundg (22 - (t + 1))
      case measure => have := TG.out; omega
      case rel => exact ⟨t + 1, by omega, by have := TG.out; omega, by simp, B22.out, P22.out⟩
    · have l1 : ¬ (t : Int) < 22 := by omega
      go_wp2_with (first | ((first | (refine load_b P20.out rfl _ rfl rfl ?_) | (refine load_bg P20.out rfl _ rfl rfl ?_)); simp only [Act.put, List.setIfInBounds_toArray, List.set_cons_zero, List.set_cons_succ]))
      with_reducible refine (SX.out _).mono ?_
      rintro q_ u21 ⟨rfl, hb⟩
      have B21 := Lib.hid (vian HN.out B20.out hb)
      have P21 := Lib.hid (P20.out.below hb)
      clear hb B20 P20
      go_wp2_with (refine store_b (Has.new u21 (enc zeroM) 29) (mc) rfl _ _ rfl rfl rfl ?_)
      intro u22 hP hk
      have Q_ := own1 u21 (.cells (enc zeroM) 29)
      have LC := Lib.hid (show n_ ≤ u21.heap.size from Nat.le_trans HN.out B21.out.size)
      have NPC := Lib.hid (show pb ≠ u21.heap.size from Nat.ne_of_lt P21.out.1)
      have B22 := Lib.hid (hk.below HN.out LC.out (vian HN.out B21.out Q_))
      have P22 := Lib.hid (hk.has NPC.out (P21.out.below Q_))
      have C22 := Lib.hid hP
      generalize u21.heap.size = cb at LC NPC C22 ⊢
      clear hk hP Q_ B21 P21
      try simp only [Act.put, List.setIfInBounds_toArray, List.set_cons_zero, List.set_cons_succ]
      go_upto_region 13 with (fail)
      have B23 := Lib.hid B22.out.drew
      have P23 := Lib.hid P22.out.drew
      have C23 := Lib.hid C22.out.drew
      clear B22 P22 C22
      refine wp_region_held_drew (S := (fun w' => (w'.rangeAt pb 0 (enc mb).toList) ∧ (w'.rangeAt cb 0 (enc mc).toList))) (by kernel_rfl) ⟨range_of_has P23.out, range_of_has C23.out⟩ (fun hHeld => ?_)
      generalize World.drew _ = u23 at hHeld B23 P23 C23 ⊢
      refine wpAnyH_take (i := 0) (oi := { dst := some 54, op := Go.Op.move (Go.Operand.tmp 1), type := 3, pos := "law.go:158", after := #[], guard := none }) (v := ?v1) rfl (by kernel_rfl) (by kernel_rfl) (by kernel_rfl) (fun _ _ _ h => h) (Or.inl ⟨by rfl, ?y1⟩) (by assumption) ?z1
      case y1 => (intro w hSw; (try dsimp only at hSw); go_simp) <;> with_reducible rfl
      try simp only [Act.put, List.setIfInBounds_toArray, List.set_cons_zero, List.set_cons_succ]
      refine wpAnyH_take (i := 1) (oi := { dst := some 55, op := Go.Op.binOp Go.BinOp.eql 3 (Go.Operand.tmp 54) (Go.Operand.const (Go.Value.int Go.IntKind.i64 22)) 3, type := 4, pos := "law.go:158", after := #[{ on := 0, ground := Go.Ground.data }], guard := none }) (v := ?v2) rfl (by kernel_rfl) (by kernel_rfl) (by kernel_rfl) (fun _ _ _ h => h) (Or.inl ⟨by rfl, ?y2⟩) (by assumption) ?z2
      case y2 => (intro w hSw; (try dsimp only at hSw); go_simp) <;> with_reducible rfl
      try simp only [Act.put, List.setIfInBounds_toArray, List.set_cons_zero, List.set_cons_succ]
      refine wpAnyH_take (i := 2) (oi := { dst := some 56, op := Go.Op.move (Go.Operand.tmp 55), type := 4, pos := "law.go:158", after := #[{ on := 1, ground := Go.Ground.data }], guard := none }) (v := ?v3) rfl (by kernel_rfl) (by kernel_rfl) (by kernel_rfl) (fun _ _ _ h => h) (Or.inl ⟨by rfl, ?y3⟩) (by assumption) ?z3
      case y3 => (intro w hSw; (try dsimp only at hSw); go_simp) <;> with_reducible rfl
      try simp only [Act.put, List.setIfInBounds_toArray, List.set_cons_zero, List.set_cons_succ]
      refine wpAnyH_take (i := 3) (oi := { dst := some 57, op := Go.Op.load 29 (Go.Operand.tmp 9), type := 29, pos := "law.go:158", after := #[{ on := 2, ground := Go.Ground.guard }], guard := some (2, false) }) (v := undef) rfl (by kernel_rfl) (by kernel_rfl) (by kernel_rfl) (fun _ _ _ h => h) (Or.inr ⟨by rfl, rfl⟩) (by assumption) ?_
      try simp only [Act.put, List.setIfInBounds_toArray, List.set_cons_zero, List.set_cons_succ]
      refine wpAnyH_take (i := 4) (oi := { dst := some 58, op := Go.Op.load 29 (Go.Operand.tmp 7), type := 29, pos := "law.go:158", after := #[{ on := 2, ground := Go.Ground.guard }], guard := some (2, false) }) (v := undef) rfl (by kernel_rfl) (by kernel_rfl) (by kernel_rfl) (fun _ _ _ h => h) (Or.inr ⟨by rfl, rfl⟩) (by assumption) ?_
      try simp only [Act.put, List.setIfInBounds_toArray, List.set_cons_zero, List.set_cons_succ]
      refine wpAnyH_take (i := 5) (oi := { dst := some 59, op := Go.Op.binOp Go.BinOp.eql 29 (Go.Operand.tmp 57) (Go.Operand.tmp 58) 29, type := 4, pos := "law.go:158", after := #[{ on := 3, ground := Go.Ground.data }, { on := 4, ground := Go.Ground.data }, { on := 2, ground := Go.Ground.guard }], guard := some (2, false) }) (v := undef) rfl (by kernel_rfl) (by kernel_rfl) (by kernel_rfl) (fun _ _ _ h => h) (Or.inr ⟨by rfl, rfl⟩) (by assumption) ?_
      try simp only [Act.put, List.setIfInBounds_toArray, List.set_cons_zero, List.set_cons_succ]
      refine wpAnyH_take (i := 6) (oi := { dst := some 60, op := Go.Op.pick (Go.Operand.tmp 56) (Go.Operand.const (Go.Value.bool true)) (Go.Operand.tmp 59), type := 4, pos := "law.go:158", after := #[{ on := 2, ground := Go.Ground.data }, { on := 5, ground := Go.Ground.data }], guard := none }) (v := ?v7) rfl (by kernel_rfl) (by kernel_rfl) (by kernel_rfl) (fun _ _ _ h => h) (Or.inl ⟨by rfl, ?y7⟩) (by assumption) ?z7
      case y7 => (intro w hSw; (try dsimp only at hSw); go_simp) <;> with_reducible rfl
      try simp only [Act.put, List.setIfInBounds_toArray, List.set_cons_zero, List.set_cons_succ]
      refine wpAnyH_take (i := 7) (oi := { dst := some 61, op := Go.Op.move (Go.Operand.tmp 60), type := 4, pos := "law.go:158", after := #[{ on := 6, ground := Go.Ground.data }, { on := 2, ground := Go.Ground.chain }], guard := none }) (v := ?v8) rfl (by kernel_rfl) (by kernel_rfl) (by kernel_rfl) (fun _ _ _ h => h) (Or.inl ⟨by rfl, ?y8⟩) (by assumption) ?z8
      case y8 => (intro w hSw; (try dsimp only at hSw); go_simp) <;> with_reducible rfl
      try simp only [Act.put, List.setIfInBounds_toArray, List.set_cons_zero, List.set_cons_succ]
      refine wpAnyH_take (i := 8) (oi := { dst := some 62, op := Go.Op.load 29 (Go.Operand.tmp 7), type := 29, pos := "law.go:158", after := #[{ on := 7, ground := Go.Ground.guard }], guard := some (7, true) }) (v := .agg (enc mb)) rfl (by kernel_rfl) (by kernel_rfl) (by kernel_rfl) (fun _ _ _ h => h) (yields_load mb pb (fun w hw => hw.1) (by rfl) _ rfl rfl) (by assumption) ?_
      try simp only [Act.put, List.setIfInBounds_toArray, List.set_cons_zero, List.set_cons_succ]
      refine wpAnyH_ready (rs := [9]) (by kernel_rfl) (by simp) ?_
      refine (AllReadyH.cons (o := { dst := some 63, op := Go.Op.call { callee := Go.Callee.value (Go.Operand.func 13), args := #[Go.Operand.tmp 62, Go.Operand.const (Go.Value.int Go.IntKind.i64 22)], argTypes := #[29, 3] }, type := 5, pos := "law.go:158", after := #[{ on := 8, ground := Go.Ground.data }, { on := 7, ground := Go.Ground.chain }, { on := 7, ground := Go.Ground.guard }], guard := some (7, true) }) rfl (fun K hK => ?_) AllReadyH.nil)
      · skip
        go_simp
        with_reducible refine (S22.out _ (HG.out.below N0.out B23.out)).mono ?_
        rintro q_ u24 ⟨rfl, hb⟩
        have B24 := Lib.hid (vian HN.out B23.out hb)
        have P24 := Lib.hid (P23.out.below hb)
        have C24 := Lib.hid (C23.out.below hb)
        clear hb B23 P23 C23
        refine hK.out _ _ ?s10 (fun hNew => ?r10)
        case s10 => exact ⟨range_of_has P24.out, range_of_has C24.out⟩
        clear hK K hHeld
        have hHeld := hNew
        clear hNew
        refine wpAnyH_take (i := 10) (oi := { dst := some 64, op := Go.Op.binOp Go.BinOp.eql 5 (Go.Operand.tmp 63) (Go.Operand.const (Go.Value.int Go.IntKind.u8 112)) 5, type := 4, pos := "law.go:158", after := #[{ on := 9, ground := Go.Ground.data }, { on := 7, ground := Go.Ground.guard }], guard := some (7, true) }) (v := ?v11) rfl (by kernel_rfl) (by kernel_rfl) (by kernel_rfl) (fun _ _ _ h => h) (Or.inl ⟨by rfl, ?y11⟩) (by assumption) ?z11
        case y11 => (intro w hSw; (try dsimp only at hSw); go_simp) <;> with_reducible rfl
        try simp only [Act.put, List.setIfInBounds_toArray, List.set_cons_zero, List.set_cons_succ]
        refine wpAnyH_take (i := 11) (oi := { dst := some 65, op := Go.Op.pick (Go.Operand.tmp 61) (Go.Operand.tmp 64) (Go.Operand.const (Go.Value.bool false)), type := 4, pos := "law.go:158", after := #[{ on := 7, ground := Go.Ground.data }, { on := 10, ground := Go.Ground.data }], guard := none }) (v := ?v12) rfl (by kernel_rfl) (by kernel_rfl) (by kernel_rfl) (fun _ _ _ h => h) (Or.inl ⟨by rfl, ?y12⟩) (by assumption) ?z12
        case y12 => (intro w hSw; (try dsimp only at hSw); go_simp) <;> with_reducible rfl
        try simp only [Act.put, List.setIfInBounds_toArray, List.set_cons_zero, List.set_cons_succ]
        refine wpAnyH_take (i := 12) (oi := { dst := some 66, op := Go.Op.move (Go.Operand.tmp 65), type := 4, pos := "law.go:158", after := #[{ on := 11, ground := Go.Ground.data }, { on := 9, ground := Go.Ground.chain }], guard := none }) (v := ?v13) rfl (by kernel_rfl) (by kernel_rfl) (by kernel_rfl) (fun _ _ _ h => h) (Or.inl ⟨by rfl, ?y13⟩) (by assumption) ?z13
        case y13 => (intro w hSw; (try dsimp only at hSw); go_simp) <;> with_reducible rfl
        try simp only [Act.put, List.setIfInBounds_toArray, List.set_cons_zero, List.set_cons_succ]
        refine wpAnyH_take (i := 13) (oi := { dst := some 67, op := Go.Op.load 29 (Go.Operand.tmp 7), type := 29, pos := "law.go:158", after := #[{ on := 12, ground := Go.Ground.guard }], guard := some (12, true) }) (v := .agg (enc mb)) rfl (by kernel_rfl) (by kernel_rfl) (by kernel_rfl) (fun _ _ _ h => h) (yields_load mb pb (fun w hw => hw.1) (by rfl) _ rfl rfl) (by assumption) ?_
        try simp only [Act.put, List.setIfInBounds_toArray, List.set_cons_zero, List.set_cons_succ]
        refine wpAnyH_take (i := 15) (oi := { dst := some 69, op := Go.Op.load 29 (Go.Operand.tmp 7), type := 29, pos := "law.go:158", after := #[{ on := 12, ground := Go.Ground.guard }], guard := some (12, true) }) (v := .agg (enc mb)) rfl (by kernel_rfl) (by kernel_rfl) (by kernel_rfl) (fun _ _ _ h => h) (yields_load mb pb (fun w hw => hw.1) (by rfl) _ rfl rfl) (by assumption) ?_
        try simp only [Act.put, List.setIfInBounds_toArray, List.set_cons_zero, List.set_cons_succ]
        refine wpAnyH_ready (rs := [14]) (by kernel_rfl) (by simp) ?_
        refine (AllReadyH.cons (o := { dst := some 68, op := Go.Op.call { callee := Go.Callee.value (Go.Operand.func 11), args := #[Go.Operand.tmp 67], argTypes := #[29] }, type := 29, pos := "law.go:158", after := #[{ on := 13, ground := Go.Ground.data }, { on := 12, ground := Go.Ground.chain }, { on := 12, ground := Go.Ground.guard }], guard := some (12, true) }) rfl (fun K hK => ?_) AllReadyH.nil)
        · skip
          go_simp
          with_reducible refine (ST.out _).mono ?_
          rintro q_ u25 ⟨rfl, hb⟩
          have B25 := Lib.hid (vian HN.out B24.out hb)
          have P25 := Lib.hid (P24.out.below hb)
          have C25 := Lib.hid (C24.out.below hb)
          clear hb B24 P24 C24
          refine hK.out _ _ ?s16 (fun hNew => ?r16)
          case s16 => exact ⟨range_of_has P25.out, range_of_has C25.out⟩
          clear hK K hHeld
          have hHeld := hNew
          clear hNew
          refine wpAnyH_take (i := 16) (oi := { dst := some 70, op := Go.Op.binOp Go.BinOp.eql 29 (Go.Operand.tmp 68) (Go.Operand.tmp 69) 29, type := 4, pos := "law.go:158", after := #[{ on := 14, ground := Go.Ground.data }, { on := 15, ground := Go.Ground.data }, { on := 12, ground := Go.Ground.guard }], guard := some (12, true) }) (v := .bool true) rfl (by kernel_rfl) (by kernel_rfl) (by kernel_rfl) (fun _ _ _ h => h) (yields_eq mb (by rfl) _ _ rfl rfl rfl) (by assumption) ?_
          try simp only [Act.put, List.setIfInBounds_toArray, List.set_cons_zero, List.set_cons_succ]
          refine wpAnyH_take (i := 17) (oi := { dst := some 71, op := Go.Op.pick (Go.Operand.tmp 66) (Go.Operand.tmp 70) (Go.Operand.const (Go.Value.bool false)), type := 4, pos := "law.go:158", after := #[{ on := 12, ground := Go.Ground.data }, { on := 16, ground := Go.Ground.data }], guard := none }) (v := ?v18) rfl (by kernel_rfl) (by kernel_rfl) (by kernel_rfl) (fun _ _ _ h => h) (Or.inl ⟨by rfl, ?y18⟩) (by assumption) ?z18
          case y18 => (intro w hSw; (try dsimp only at hSw); go_simp) <;> with_reducible rfl
          try simp only [Act.put, List.setIfInBounds_toArray, List.set_cons_zero, List.set_cons_succ]
          refine wpAnyH_take (i := 18) (oi := { dst := some 6, op := Go.Op.assign (Go.Operand.tmp 71), type := 4, pos := "law.go:158", after := #[{ on := 17, ground := Go.Ground.data }, { on := 14, ground := Go.Ground.chain }, { on := 0, ground := Go.Ground.phase }, { on := 1, ground := Go.Ground.phase }, { on := 2, ground := Go.Ground.phase }, { on := 3, ground := Go.Ground.phase }, { on := 4, ground := Go.Ground.phase }, { on := 5, ground := Go.Ground.phase }, { on := 6, ground := Go.Ground.phase }, { on := 7, ground := Go.Ground.phase }, { on := 8, ground := Go.Ground.phase }, { on := 9, ground := Go.Ground.phase }, { on := 10, ground := Go.Ground.phase }, { on := 11, ground := Go.Ground.phase }, { on := 12, ground := Go.Ground.phase }, { on := 13, ground := Go.Ground.phase }, { on := 14, ground := Go.Ground.phase }, { on := 15, ground := Go.Ground.phase }, { on := 16, ground := Go.Ground.phase }, { on := 17, ground := Go.Ground.phase }], guard := none }) (v := ?v19) rfl (by kernel_rfl) (by kernel_rfl) (by kernel_rfl) (fun _ _ _ h => h) (Or.inl ⟨by rfl, ?y19⟩) (by assumption) ?z19
          case y19 => (intro w hSw; (try dsimp only at hSw); go_simp) <;> with_reducible rfl
          try simp only [Act.put, List.setIfInBounds_toArray, List.set_cons_zero, List.set_cons_succ]
          refine wpAnyH_done (by kernel_rfl) ?_ _
          clear hHeld
          go_wp2
          all_goals exact bodyPost_ret (v := .bool true) (by simp [results, Tryd.results5, go_sem]) rfl ⟨rfl, B25.out⟩
set_option maxHeartbeats 8000000 in
theorem off_o (a : Option Addr) (n c : Nat) (f g h : Nat → Int) (hh : ∀ i, 0 ≤ h i ∧ h i < 256) (k x : Int) (hn4 : n ≤ 40) (g0 : 0 ≤ x) (g1 : x < 256) (hk : ¬ k = 22) (hr : ¬ (32 ≤ k ∧ k < 48)) (hr2 : k < 32)  (w : World) (hmem : (0 < n → ∃ qb qo, a = some ⟨qb, qo, none⟩ ∧ qb < w.heap.size ∧ ∀ j, j < n → w.cell? ⟨qb, qo + j * 3, none⟩ = some (.int .i64 (f j)) ∧ w.cell? ⟨qb, qo + j * 3 + 1, none⟩ = some (.int .i64 (g j)) ∧ w.cell? ⟨qb, qo + j * 3 + 2, none⟩ = some (.int .u8 (h j)))) (hg : Glob w) : Calls Tryd.prog 5 #[.slice a n c, .int .i64 k, .int .u8 x] w fun q_ w' => q_ = .returned (.bool true) ∧ Below w.heap.size w w' := by
  suffices hall : ∀ (n_ : Nat) (W0 : World), n_ ≤ W0.heap.size → Below n_ W0 w → (0 < n → ∃ qb qo, a = some ⟨qb, qo, none⟩ ∧ qb < n_ ∧ ∀ j, j < n → W0.cell? ⟨qb, qo + j * 3, none⟩ = some (.int .i64 (f j)) ∧ W0.cell? ⟨qb, qo + j * 3 + 1, none⟩ = some (.int .i64 (g j)) ∧ W0.cell? ⟨qb, qo + j * 3 + 2, none⟩ = some (.int .u8 (h j))) → Glob W0 → 0 < n_ → Calls Tryd.prog 5 #[.slice a n c, .int .i64 k, .int .u8 x] w fun q_ w' => q_ = .returned (.bool true) ∧ Below n_ W0 w' from hall _ _ (Nat.le_refl _) (Below.refl _ _) hmem hg hg.1
  clear hg
  intro n_ W0 hn hB hI hG hn0
  have HN := Lib.hid hn
  have BB := Lib.hid hB
  have HIN := Lib.hid hI
  have HH := Lib.hid hh
  clear hn hB hI hmem hh
  have HG := Lib.hid hG
  have N0 := Lib.hid hn0
  clear hG hn0
  have h0I : ¬ (40 : Int) < n := by omega
  have AW := Lib.hid awake_c
  have b127 := a127 x g0 g1
  obtain ⟨m0, hm0⟩ : ∃ q_, playN f g h n = q_ := ⟨_, rfl⟩
  have k0 : okM m0 := hm0 ▸ ok_play f g h HH.out n
  have SP := Lib.hid (fun W hmem => play_c a n c f g h HH.out hn4 W hmem)
  rw [hm0] at SP
  obtain ⟨mb, hmb⟩ : ∃ q_, offV m0 = q_ := ⟨_, rfl⟩
  have SW := Lib.hid (fun W => (write_c m0 k0 22 (x % 128) (by omega) (by omega) W))
  have hwb : writeV m0 22 (x % 128) = mb := by unfold writeV; rw [if_pos rfl, if_neg (by omega)]; exact hmb
  rw [hwb] at SW
  have k1 : okM mb := hmb ▸ ok_off k0
  have SX := Lib.hid (fun W => write_c mb k1 k x g0 g1 W)
  obtain ⟨mc, hmc⟩ : ∃ q_, writeV mb k x = q_ := ⟨_, rfl⟩
  rw [hmc] at SX
  have RQ := Lib.hid (fun (i : Nat) (hi : i < 22) => (show readV mb i = readV zeroM i from hmb ▸ zero_is i m0 hi))
  have S22 := Lib.hid (fun W hW => read_c mb 22 W hW)
  rw [show readV mb 22 = 112 from hmb ▸ read_off22 m0] at S22
  have ST := Lib.hid (fun W => tick_c mb k1 W)
  rw [show tickV mb = mb from hmb ▸ tick_still m0] at ST
  have hmm : mc = mb := by rw [← hmc, ← hmb]; exact write_still m0 k x hk hr
  clear hmc
  subst hmm
  have q0 : (k == 22) = false := by simpa using hk
  have q1 : decide (32 ≤ k) = false := by simp; omega
  have q2 : decide (k < 48) = true := by simp; omega
  clear hmb hwb k0 k1 hm0
  have hz29 : ∀ w : World, (zeroValue 29).run Tryd.prog w = .ok (.agg (enc zeroM)) w := zero29
  have hnot : ∀ (x : Bool) (w : World), (Op.unary .not (.bool x)).run Tryd.prog w = .ok (.bool (!x)) w := fun _ _ => rfl
  go_enter Tryd.func5, Tryd.ntmps5
  go_wp2_with (fail)
  with_reducible refine (AW.out _ (HG.out.below N0.out BB.out)).mono ?_
  rintro q_ u1 ⟨rfl, hb⟩
  have B1 := Lib.hid (vian HN.out BB.out hb)
  clear hb 
  go_wp2_with (fail)
  with_reducible refine (SP.out _ (fun hp => by obtain ⟨qb, qo, e1, e2, e3⟩ := HIN.out hp; exact ⟨qb, qo, e1, Nat.lt_of_lt_of_le (Nat.lt_of_lt_of_le e2 HN.out) B1.out.size, fun i hi => ⟨(B1.out.cell (p := ⟨qb, qo + i * 3, none⟩) e2).trans (e3 i hi).1, (B1.out.cell (p := ⟨qb, qo + i * 3 + 1, none⟩) e2).trans (e3 i hi).2.1, (B1.out.cell (p := ⟨qb, qo + i * 3 + 2, none⟩) e2).trans (e3 i hi).2.2⟩⟩)).mono ?_
  rintro q_ u2 ⟨rfl, hb⟩
  have B2 := Lib.hid (vian HN.out B1.out hb)
  clear hb B1
  go_wp2_with (fail)
  with_reducible refine (SW.out _).mono ?_
  rintro q_ u3 ⟨rfl, hb⟩
  have B3 := Lib.hid (vian HN.out B2.out hb)
  clear hb B2
  go_wp2_with (refine store_b (Has.new u3 (enc zeroM) 29) (mc) rfl _ _ rfl rfl rfl ?_)
  intro u4 hP hk
  have Q_ := own1 u3 (.cells (enc zeroM) 29)
  have LP := Lib.hid (show n_ ≤ u3.heap.size from Nat.le_trans HN.out B3.out.size)
  have B4 := Lib.hid (hk.below HN.out LP.out (vian HN.out B3.out Q_))
  have P4 := Lib.hid hP
  generalize u3.heap.size = pb at LP  P4 ⊢
  clear hk hP Q_ B3
  try simp only [Act.put, List.setIfInBounds_toArray, List.set_cons_zero, List.set_cons_succ]
  go_wp2
  go_loopg [23] 22 (fun g' i w5 => ∃ (t : Nat), t ≤ 22 ∧ g' + t = 22 ∧ i = .int .i64 t ∧ Below n_ W0 w5 ∧ Has w5 pb (enc mc))
  case atStart => exact ⟨0, by omega, by omega, rfl, B4.out, P4.out⟩
  case round =>
    obtain ⟨u20, hw5⟩ : ∃ q_, q_ = wr := ⟨_, rfl⟩
    subst hw5
    obtain ⟨t, ht, hg, rfl, hB, hP⟩ := hrel
    have TG := Lib.hid hg
    have B20 := Lib.hid hB
    have P20 := Lib.hid hP
    clear hg hB hP B4 P4
    by_cases hlt : t < 22
    · have l1 : (t : Int) < 22 := by omega
      obtain ⟨r, hr⟩ : ∃ q_, readV zeroM t = q_ := ⟨_, rfl⟩
      have R1 := Lib.hid (fun W hW => read_c mc t W hW)
      have R2 := Lib.hid (fun W hW => read_c zeroM t W hW)
      rw [RQ.out t hlt, hr] at R1
      rw [hr] at R2
      clear hr
      go_wp2_with (first | ((first | (refine load_b P20.out rfl _ rfl rfl ?_) | (refine load_bg P20.out rfl _ rfl rfl ?_)); simp only [Act.put, List.setIfInBounds_toArray, List.set_cons_zero, List.set_cons_succ]))
      with_reducible refine (R1.out _ (HG.out.below N0.out B20.out)).mono ?_
      rintro q_ u21 ⟨rfl, hb⟩
      have B21 := Lib.hid (vian HN.out B20.out hb)
      have P21 := Lib.hid (P20.out.below hb)
      clear hb B20 P20
      go_wp2_with (fail)
      with_reducible refine (R2.out _ (HG.out.below N0.out B21.out)).mono ?_
      rintro q_ u22 ⟨rfl, hb⟩
      have B22 := Lib.hid (vian HN.out B21.out hb)
      have P22 := Lib.hid (P21.out.below hb)
      clear hb B21 P21
      go_wp2
      go_roundg (22 - (t + 1))
      case measure => have := TG.out; omega
      case rel => exact ⟨t + 1, by omega, by have := TG.out; omega, by simp, B22.out, P22.out⟩
    · have l1 : ¬ (t : Int) < 22 := by omega
      go_wp2_with (first | ((first | (refine load_b P20.out rfl _ rfl rfl ?_) | (refine load_bg P20.out rfl _ rfl rfl ?_)); simp only [Act.put, List.setIfInBounds_toArray, List.set_cons_zero, List.set_cons_succ]))
      with_reducible refine (SX.out _).mono ?_
      rintro q_ u21 ⟨rfl, hb⟩
      have B21 := Lib.hid (vian HN.out B20.out hb)
      have P21 := Lib.hid (P20.out.below hb)
      clear hb B20 P20
      go_wp2_with (refine store_b (Has.new u21 (enc zeroM) 29) (mc) rfl _ _ rfl rfl rfl ?_)
      intro u22 hP hk
      have Q_ := own1 u21 (.cells (enc zeroM) 29)
      have LC := Lib.hid (show n_ ≤ u21.heap.size from Nat.le_trans HN.out B21.out.size)
      have NPC := Lib.hid (show pb ≠ u21.heap.size from Nat.ne_of_lt P21.out.1)
      have B22 := Lib.hid (hk.below HN.out LC.out (vian HN.out B21.out Q_))
      have P22 := Lib.hid (hk.has NPC.out (P21.out.below Q_))
      have C22 := Lib.hid hP
      generalize u21.heap.size = cb at LC NPC C22 ⊢
      clear hk hP Q_ B21 P21
      try simp only [Act.put, List.setIfInBounds_toArray, List.set_cons_zero, List.set_cons_succ]
      go_upto_region 13 with (fail)
      have B23 := Lib.hid B22.out.drew
      have P23 := Lib.hid P22.out.drew
      have C23 := Lib.hid C22.out.drew
      clear B22 P22 C22
      refine wp_region_held_drew (S := (fun w' => (w'.rangeAt pb 0 (enc mc).toList) ∧ (w'.rangeAt cb 0 (enc mc).toList))) (by kernel_rfl) ⟨range_of_has P23.out, range_of_has C23.out⟩ (fun hHeld => ?_)
      generalize World.drew _ = u23 at hHeld B23 P23 C23 ⊢
      refine wpAnyH_take (i := 0) (oi := { dst := some 54, op := Go.Op.move (Go.Operand.tmp 1), type := 3, pos := "law.go:158", after := #[], guard := none }) (v := ?v20) rfl (by kernel_rfl) (by kernel_rfl) (by kernel_rfl) (fun _ _ _ h => h) (Or.inl ⟨by rfl, ?y20⟩) (by assumption) ?z20
      case y20 => (intro w hSw; (try dsimp only at hSw); go_simp) <;> with_reducible rfl
      try simp only [Act.put, List.setIfInBounds_toArray, List.set_cons_zero, List.set_cons_succ]
      refine wpAnyH_take (i := 1) (oi := { dst := some 55, op := Go.Op.binOp Go.BinOp.eql 3 (Go.Operand.tmp 54) (Go.Operand.const (Go.Value.int Go.IntKind.i64 22)) 3, type := 4, pos := "law.go:158", after := #[{ on := 0, ground := Go.Ground.data }], guard := none }) (v := ?v21) rfl (by kernel_rfl) (by kernel_rfl) (by kernel_rfl) (fun _ _ _ h => h) (Or.inl ⟨by rfl, ?y21⟩) (by assumption) ?z21
      case y21 => (intro w hSw; (try dsimp only at hSw); go_simp) <;> with_reducible rfl
      try simp only [Act.put, List.setIfInBounds_toArray, List.set_cons_zero, List.set_cons_succ]
      refine wpAnyH_take (i := 2) (oi := { dst := some 56, op := Go.Op.move (Go.Operand.tmp 55), type := 4, pos := "law.go:158", after := #[{ on := 1, ground := Go.Ground.data }], guard := none }) (v := ?v22) rfl (by kernel_rfl) (by kernel_rfl) (by kernel_rfl) (fun _ _ _ h => h) (Or.inl ⟨by rfl, ?y22⟩) (by assumption) ?z22
      case y22 => (intro w hSw; (try dsimp only at hSw); go_simp) <;> with_reducible rfl
      try simp only [Act.put, List.setIfInBounds_toArray, List.set_cons_zero, List.set_cons_succ]
      refine wpAnyH_take (i := 3) (oi := { dst := some 57, op := Go.Op.load 29 (Go.Operand.tmp 9), type := 29, pos := "law.go:158", after := #[{ on := 2, ground := Go.Ground.guard }], guard := some (2, false) }) (v := .agg (enc mc)) rfl (by kernel_rfl) (by kernel_rfl) (by kernel_rfl) (fun _ _ _ h => h) (yields_load mc cb (fun w hw => hw.2) (by rfl) _ rfl rfl) (by assumption) ?_
      try simp only [Act.put, List.setIfInBounds_toArray, List.set_cons_zero, List.set_cons_succ]
      refine wpAnyH_take (i := 4) (oi := { dst := some 58, op := Go.Op.load 29 (Go.Operand.tmp 7), type := 29, pos := "law.go:158", after := #[{ on := 2, ground := Go.Ground.guard }], guard := some (2, false) }) (v := .agg (enc mc)) rfl (by kernel_rfl) (by kernel_rfl) (by kernel_rfl) (fun _ _ _ h => h) (yields_load mc pb (fun w hw => hw.1) (by rfl) _ rfl rfl) (by assumption) ?_
      try simp only [Act.put, List.setIfInBounds_toArray, List.set_cons_zero, List.set_cons_succ]
      refine wpAnyH_take (i := 5) (oi := { dst := some 59, op := Go.Op.binOp Go.BinOp.eql 29 (Go.Operand.tmp 57) (Go.Operand.tmp 58) 29, type := 4, pos := "law.go:158", after := #[{ on := 3, ground := Go.Ground.data }, { on := 4, ground := Go.Ground.data }, { on := 2, ground := Go.Ground.guard }], guard := some (2, false) }) (v := .bool true) rfl (by kernel_rfl) (by kernel_rfl) (by kernel_rfl) (fun _ _ _ h => h) (yields_eq mc (by rfl) _ _ rfl rfl rfl) (by assumption) ?_
      try simp only [Act.put, List.setIfInBounds_toArray, List.set_cons_zero, List.set_cons_succ]
      refine wpAnyH_take (i := 6) (oi := { dst := some 60, op := Go.Op.pick (Go.Operand.tmp 56) (Go.Operand.const (Go.Value.bool true)) (Go.Operand.tmp 59), type := 4, pos := "law.go:158", after := #[{ on := 2, ground := Go.Ground.data }, { on := 5, ground := Go.Ground.data }], guard := none }) (v := ?v26) rfl (by kernel_rfl) (by kernel_rfl) (by kernel_rfl) (fun _ _ _ h => h) (Or.inl ⟨by rfl, ?y26⟩) (by assumption) ?z26
      case y26 => (intro w hSw; (try dsimp only at hSw); go_simp) <;> with_reducible rfl
      try simp only [Act.put, List.setIfInBounds_toArray, List.set_cons_zero, List.set_cons_succ]
      refine wpAnyH_take (i := 7) (oi := { dst := some 61, op := Go.Op.move (Go.Operand.tmp 60), type := 4, pos := "law.go:158", after := #[{ on := 6, ground := Go.Ground.data }, { on := 2, ground := Go.Ground.chain }], guard := none }) (v := ?v27) rfl (by kernel_rfl) (by kernel_rfl) (by kernel_rfl) (fun _ _ _ h => h) (Or.inl ⟨by rfl, ?y27⟩) (by assumption) ?z27
      case y27 => (intro w hSw; (try dsimp only at hSw); go_simp) <;> with_reducible rfl
      try simp only [Act.put, List.setIfInBounds_toArray, List.set_cons_zero, List.set_cons_succ]
      refine wpAnyH_take (i := 8) (oi := { dst := some 62, op := Go.Op.load 29 (Go.Operand.tmp 7), type := 29, pos := "law.go:158", after := #[{ on := 7, ground := Go.Ground.guard }], guard := some (7, true) }) (v := .agg (enc mc)) rfl (by kernel_rfl) (by kernel_rfl) (by kernel_rfl) (fun _ _ _ h => h) (yields_load mc pb (fun w hw => hw.1) (by rfl) _ rfl rfl) (by assumption) ?_
      try simp only [Act.put, List.setIfInBounds_toArray, List.set_cons_zero, List.set_cons_succ]
      refine wpAnyH_ready (rs := [9]) (by kernel_rfl) (by simp) ?_
      refine (AllReadyH.cons (o := { dst := some 63, op := Go.Op.call { callee := Go.Callee.value (Go.Operand.func 13), args := #[Go.Operand.tmp 62, Go.Operand.const (Go.Value.int Go.IntKind.i64 22)], argTypes := #[29, 3] }, type := 5, pos := "law.go:158", after := #[{ on := 8, ground := Go.Ground.data }, { on := 7, ground := Go.Ground.chain }, { on := 7, ground := Go.Ground.guard }], guard := some (7, true) }) rfl (fun K hK => ?_) AllReadyH.nil)
      · skip
        go_simp
        with_reducible refine (S22.out _ (HG.out.below N0.out B23.out)).mono ?_
        rintro q_ u24 ⟨rfl, hb⟩
        have B24 := Lib.hid (vian HN.out B23.out hb)
        have P24 := Lib.hid (P23.out.below hb)
        have C24 := Lib.hid (C23.out.below hb)
        clear hb B23 P23 C23
        refine hK.out _ _ ?s29 (fun hNew => ?r29)
        case s29 => exact ⟨range_of_has P24.out, range_of_has C24.out⟩
        clear hK K hHeld
        have hHeld := hNew
        clear hNew
        refine wpAnyH_take (i := 10) (oi := { dst := some 64, op := Go.Op.binOp Go.BinOp.eql 5 (Go.Operand.tmp 63) (Go.Operand.const (Go.Value.int Go.IntKind.u8 112)) 5, type := 4, pos := "law.go:158", after := #[{ on := 9, ground := Go.Ground.data }, { on := 7, ground := Go.Ground.guard }], guard := some (7, true) }) (v := ?v30) rfl (by kernel_rfl) (by kernel_rfl) (by kernel_rfl) (fun _ _ _ h => h) (Or.inl ⟨by rfl, ?y30⟩) (by assumption) ?z30
        case y30 => (intro w hSw; (try dsimp only at hSw); go_simp) <;> with_reducible rfl
        try simp only [Act.put, List.setIfInBounds_toArray, List.set_cons_zero, List.set_cons_succ]
        refine wpAnyH_take (i := 11) (oi := { dst := some 65, op := Go.Op.pick (Go.Operand.tmp 61) (Go.Operand.tmp 64) (Go.Operand.const (Go.Value.bool false)), type := 4, pos := "law.go:158", after := #[{ on := 7, ground := Go.Ground.data }, { on := 10, ground := Go.Ground.data }], guard := none }) (v := ?v31) rfl (by kernel_rfl) (by kernel_rfl) (by kernel_rfl) (fun _ _ _ h => h) (Or.inl ⟨by rfl, ?y31⟩) (by assumption) ?z31
        case y31 => (intro w hSw; (try dsimp only at hSw); go_simp) <;> with_reducible rfl
        try simp only [Act.put, List.setIfInBounds_toArray, List.set_cons_zero, List.set_cons_succ]
        refine wpAnyH_take (i := 12) (oi := { dst := some 66, op := Go.Op.move (Go.Operand.tmp 65), type := 4, pos := "law.go:158", after := #[{ on := 11, ground := Go.Ground.data }, { on := 9, ground := Go.Ground.chain }], guard := none }) (v := ?v32) rfl (by kernel_rfl) (by kernel_rfl) (by kernel_rfl) (fun _ _ _ h => h) (Or.inl ⟨by rfl, ?y32⟩) (by assumption) ?z32
        case y32 => (intro w hSw; (try dsimp only at hSw); go_simp) <;> with_reducible rfl
        try simp only [Act.put, List.setIfInBounds_toArray, List.set_cons_zero, List.set_cons_succ]
        refine wpAnyH_take (i := 13) (oi := { dst := some 67, op := Go.Op.load 29 (Go.Operand.tmp 7), type := 29, pos := "law.go:158", after := #[{ on := 12, ground := Go.Ground.guard }], guard := some (12, true) }) (v := .agg (enc mc)) rfl (by kernel_rfl) (by kernel_rfl) (by kernel_rfl) (fun _ _ _ h => h) (yields_load mc pb (fun w hw => hw.1) (by rfl) _ rfl rfl) (by assumption) ?_
        try simp only [Act.put, List.setIfInBounds_toArray, List.set_cons_zero, List.set_cons_succ]
        refine wpAnyH_take (i := 15) (oi := { dst := some 69, op := Go.Op.load 29 (Go.Operand.tmp 7), type := 29, pos := "law.go:158", after := #[{ on := 12, ground := Go.Ground.guard }], guard := some (12, true) }) (v := .agg (enc mc)) rfl (by kernel_rfl) (by kernel_rfl) (by kernel_rfl) (fun _ _ _ h => h) (yields_load mc pb (fun w hw => hw.1) (by rfl) _ rfl rfl) (by assumption) ?_
        try simp only [Act.put, List.setIfInBounds_toArray, List.set_cons_zero, List.set_cons_succ]
        refine wpAnyH_ready (rs := [14]) (by kernel_rfl) (by simp) ?_
        refine (AllReadyH.cons (o := { dst := some 68, op := Go.Op.call { callee := Go.Callee.value (Go.Operand.func 11), args := #[Go.Operand.tmp 67], argTypes := #[29] }, type := 29, pos := "law.go:158", after := #[{ on := 13, ground := Go.Ground.data }, { on := 12, ground := Go.Ground.chain }, { on := 12, ground := Go.Ground.guard }], guard := some (12, true) }) rfl (fun K hK => ?_) AllReadyH.nil)
        · skip
          go_simp
          with_reducible refine (ST.out _).mono ?_
          rintro q_ u25 ⟨rfl, hb⟩
          have B25 := Lib.hid (vian HN.out B24.out hb)
          have P25 := Lib.hid (P24.out.below hb)
          have C25 := Lib.hid (C24.out.below hb)
          clear hb B24 P24 C24
          refine hK.out _ _ ?s35 (fun hNew => ?r35)
          case s35 => exact ⟨range_of_has P25.out, range_of_has C25.out⟩
          clear hK K hHeld
          have hHeld := hNew
          clear hNew
          refine wpAnyH_take (i := 16) (oi := { dst := some 70, op := Go.Op.binOp Go.BinOp.eql 29 (Go.Operand.tmp 68) (Go.Operand.tmp 69) 29, type := 4, pos := "law.go:158", after := #[{ on := 14, ground := Go.Ground.data }, { on := 15, ground := Go.Ground.data }, { on := 12, ground := Go.Ground.guard }], guard := some (12, true) }) (v := .bool true) rfl (by kernel_rfl) (by kernel_rfl) (by kernel_rfl) (fun _ _ _ h => h) (yields_eq mc (by rfl) _ _ rfl rfl rfl) (by assumption) ?_
          try simp only [Act.put, List.setIfInBounds_toArray, List.set_cons_zero, List.set_cons_succ]
          refine wpAnyH_take (i := 17) (oi := { dst := some 71, op := Go.Op.pick (Go.Operand.tmp 66) (Go.Operand.tmp 70) (Go.Operand.const (Go.Value.bool false)), type := 4, pos := "law.go:158", after := #[{ on := 12, ground := Go.Ground.data }, { on := 16, ground := Go.Ground.data }], guard := none }) (v := ?v37) rfl (by kernel_rfl) (by kernel_rfl) (by kernel_rfl) (fun _ _ _ h => h) (Or.inl ⟨by rfl, ?y37⟩) (by assumption) ?z37
          case y37 => (intro w hSw; (try dsimp only at hSw); go_simp) <;> with_reducible rfl
          try simp only [Act.put, List.setIfInBounds_toArray, List.set_cons_zero, List.set_cons_succ]
          refine wpAnyH_take (i := 18) (oi := { dst := some 6, op := Go.Op.assign (Go.Operand.tmp 71), type := 4, pos := "law.go:158", after := #[{ on := 17, ground := Go.Ground.data }, { on := 14, ground := Go.Ground.chain }, { on := 0, ground := Go.Ground.phase }, { on := 1, ground := Go.Ground.phase }, { on := 2, ground := Go.Ground.phase }, { on := 3, ground := Go.Ground.phase }, { on := 4, ground := Go.Ground.phase }, { on := 5, ground := Go.Ground.phase }, { on := 6, ground := Go.Ground.phase }, { on := 7, ground := Go.Ground.phase }, { on := 8, ground := Go.Ground.phase }, { on := 9, ground := Go.Ground.phase }, { on := 10, ground := Go.Ground.phase }, { on := 11, ground := Go.Ground.phase }, { on := 12, ground := Go.Ground.phase }, { on := 13, ground := Go.Ground.phase }, { on := 14, ground := Go.Ground.phase }, { on := 15, ground := Go.Ground.phase }, { on := 16, ground := Go.Ground.phase }, { on := 17, ground := Go.Ground.phase }], guard := none }) (v := ?v38) rfl (by kernel_rfl) (by kernel_rfl) (by kernel_rfl) (fun _ _ _ h => h) (Or.inl ⟨by rfl, ?y38⟩) (by assumption) ?z38
          case y38 => (intro w hSw; (try dsimp only at hSw); go_simp) <;> with_reducible rfl
          try simp only [Act.put, List.setIfInBounds_toArray, List.set_cons_zero, List.set_cons_succ]
          refine wpAnyH_done (by kernel_rfl) ?_ _
          clear hHeld
          go_wp2
          all_goals exact bodyPost_ret (v := .bool true) (by simp [results, Tryd.results5, go_sem]) rfl ⟨rfl, B25.out⟩
set_option maxHeartbeats 8000000 in
theorem off_q (a : Option Addr) (n c : Nat) (f g h : Nat → Int) (hh : ∀ i, 0 ≤ h i ∧ h i < 256) (k x : Int) (hn4 : n ≤ 40) (g0 : 0 ≤ x) (g1 : x < 256) (hk : ¬ k = 22) (hr : ¬ (32 ≤ k ∧ k < 48)) (hr2 : ¬ k < 32)  (w : World) (hmem : (0 < n → ∃ qb qo, a = some ⟨qb, qo, none⟩ ∧ qb < w.heap.size ∧ ∀ j, j < n → w.cell? ⟨qb, qo + j * 3, none⟩ = some (.int .i64 (f j)) ∧ w.cell? ⟨qb, qo + j * 3 + 1, none⟩ = some (.int .i64 (g j)) ∧ w.cell? ⟨qb, qo + j * 3 + 2, none⟩ = some (.int .u8 (h j)))) (hg : Glob w) : Calls Tryd.prog 5 #[.slice a n c, .int .i64 k, .int .u8 x] w fun q_ w' => q_ = .returned (.bool true) ∧ Below w.heap.size w w' := by
  suffices hall : ∀ (n_ : Nat) (W0 : World), n_ ≤ W0.heap.size → Below n_ W0 w → (0 < n → ∃ qb qo, a = some ⟨qb, qo, none⟩ ∧ qb < n_ ∧ ∀ j, j < n → W0.cell? ⟨qb, qo + j * 3, none⟩ = some (.int .i64 (f j)) ∧ W0.cell? ⟨qb, qo + j * 3 + 1, none⟩ = some (.int .i64 (g j)) ∧ W0.cell? ⟨qb, qo + j * 3 + 2, none⟩ = some (.int .u8 (h j))) → Glob W0 → 0 < n_ → Calls Tryd.prog 5 #[.slice a n c, .int .i64 k, .int .u8 x] w fun q_ w' => q_ = .returned (.bool true) ∧ Below n_ W0 w' from hall _ _ (Nat.le_refl _) (Below.refl _ _) hmem hg hg.1
  clear hg
  intro n_ W0 hn hB hI hG hn0
  have HN := Lib.hid hn
  have BB := Lib.hid hB
  have HIN := Lib.hid hI
  have HH := Lib.hid hh
  clear hn hB hI hmem hh
  have HG := Lib.hid hG
  have N0 := Lib.hid hn0
  clear hG hn0
  have h0I : ¬ (40 : Int) < n := by omega
  have AW := Lib.hid awake_c
  have b127 := a127 x g0 g1
  obtain ⟨m0, hm0⟩ : ∃ q_, playN f g h n = q_ := ⟨_, rfl⟩
  have k0 : okM m0 := hm0 ▸ ok_play f g h HH.out n
  have SP := Lib.hid (fun W hmem => play_c a n c f g h HH.out hn4 W hmem)
  rw [hm0] at SP
  obtain ⟨mb, hmb⟩ : ∃ q_, offV m0 = q_ := ⟨_, rfl⟩
  have SW := Lib.hid (fun W => (write_c m0 k0 22 (x % 128) (by omega) (by omega) W))
  have hwb : writeV m0 22 (x % 128) = mb := by unfold writeV; rw [if_pos rfl, if_neg (by omega)]; exact hmb
  rw [hwb] at SW
  have k1 : okM mb := hmb ▸ ok_off k0
  have SX := Lib.hid (fun W => write_c mb k1 k x g0 g1 W)
  obtain ⟨mc, hmc⟩ : ∃ q_, writeV mb k x = q_ := ⟨_, rfl⟩
  rw [hmc] at SX
  have RQ := Lib.hid (fun (i : Nat) (hi : i < 22) => (show readV mb i = readV zeroM i from hmb ▸ zero_is i m0 hi))
  have S22 := Lib.hid (fun W hW => read_c mb 22 W hW)
  rw [show readV mb 22 = 112 from hmb ▸ read_off22 m0] at S22
  have ST := Lib.hid (fun W => tick_c mb k1 W)
  rw [show tickV mb = mb from hmb ▸ tick_still m0] at ST
  have hmm : mc = mb := by rw [← hmc, ← hmb]; exact write_still m0 k x hk hr
  clear hmc
  subst hmm
  have q0 : (k == 22) = false := by simpa using hk
  have q1 : decide (32 ≤ k) = true := by simp; omega
  have q2 : decide (k < 48) = false := by simp; omega
  clear hmb hwb k0 k1 hm0
  have hz29 : ∀ w : World, (zeroValue 29).run Tryd.prog w = .ok (.agg (enc zeroM)) w := zero29
  have hnot : ∀ (x : Bool) (w : World), (Op.unary .not (.bool x)).run Tryd.prog w = .ok (.bool (!x)) w := fun _ _ => rfl
  go_enter Tryd.func5, Tryd.ntmps5
  go_wp2_with (fail)
  with_reducible refine (AW.out _ (HG.out.below N0.out BB.out)).mono ?_
  rintro q_ u1 ⟨rfl, hb⟩
  have B1 := Lib.hid (vian HN.out BB.out hb)
  clear hb 
  go_wp2_with (fail)
  with_reducible refine (SP.out _ (fun hp => by obtain ⟨qb, qo, e1, e2, e3⟩ := HIN.out hp; exact ⟨qb, qo, e1, Nat.lt_of_lt_of_le (Nat.lt_of_lt_of_le e2 HN.out) B1.out.size, fun i hi => ⟨(B1.out.cell (p := ⟨qb, qo + i * 3, none⟩) e2).trans (e3 i hi).1, (B1.out.cell (p := ⟨qb, qo + i * 3 + 1, none⟩) e2).trans (e3 i hi).2.1, (B1.out.cell (p := ⟨qb, qo + i * 3 + 2, none⟩) e2).trans (e3 i hi).2.2⟩⟩)).mono ?_
  rintro q_ u2 ⟨rfl, hb⟩
  have B2 := Lib.hid (vian HN.out B1.out hb)
  clear hb B1
  go_wp2_with (fail)
  with_reducible refine (SW.out _).mono ?_
  rintro q_ u3 ⟨rfl, hb⟩
  have B3 := Lib.hid (vian HN.out B2.out hb)
  clear hb B2
  go_wp2_with (refine store_b (Has.new u3 (enc zeroM) 29) (mc) rfl _ _ rfl rfl rfl ?_)
  intro u4 hP hk
  have Q_ := own1 u3 (.cells (enc zeroM) 29)
  have LP := Lib.hid (show n_ ≤ u3.heap.size from Nat.le_trans HN.out B3.out.size)
  have B4 := Lib.hid (hk.below HN.out LP.out (vian HN.out B3.out Q_))
  have P4 := Lib.hid hP
  generalize u3.heap.size = pb at LP  P4 ⊢
  clear hk hP Q_ B3
  try simp only [Act.put, List.setIfInBounds_toArray, List.set_cons_zero, List.set_cons_succ]
  go_wp2
  go_loopg [23] 22 (fun g' i w5 => ∃ (t : Nat), t ≤ 22 ∧ g' + t = 22 ∧ i = .int .i64 t ∧ Below n_ W0 w5 ∧ Has w5 pb (enc mc))
  case atStart => exact ⟨0, by omega, by omega, rfl, B4.out, P4.out⟩
  case round =>
    obtain ⟨u20, hw5⟩ : ∃ q_, q_ = wr := ⟨_, rfl⟩
    subst hw5
    obtain ⟨t, ht, hg, rfl, hB, hP⟩ := hrel
    have TG := Lib.hid hg
    have B20 := Lib.hid hB
    have P20 := Lib.hid hP
    clear hg hB hP B4 P4
    by_cases hlt : t < 22
    · have l1 : (t : Int) < 22 := by omega
      obtain ⟨r, hr⟩ : ∃ q_, readV zeroM t = q_ := ⟨_, rfl⟩
      have R1 := Lib.hid (fun W hW => read_c mc t W hW)
      have R2 := Lib.hid (fun W hW => read_c zeroM t W hW)
      rw [RQ.out t hlt, hr] at R1
      rw [hr] at R2
      clear hr
      go_wp2_with (first | ((first | (refine load_b P20.out rfl _ rfl rfl ?_) | (refine load_bg P20.out rfl _ rfl rfl ?_)); simp only [Act.put, List.setIfInBounds_toArray, List.set_cons_zero, List.set_cons_succ]))
      with_reducible refine (R1.out _ (HG.out.below N0.out B20.out)).mono ?_
      rintro q_ u21 ⟨rfl, hb⟩
      have B21 := Lib.hid (vian HN.out B20.out hb)
      have P21 := Lib.hid (P20.out.below hb)
      clear hb B20 P20
      go_wp2_with (fail)
      with_reducible refine (R2.out _ (HG.out.below N0.out B21.out)).mono ?_
      rintro q_ u22 ⟨rfl, hb⟩
      have B22 := Lib.hid (vian HN.out B21.out hb)
      have P22 := Lib.hid (P21.out.below hb)
      clear hb B21 P21
      go_wp2
      go_roundg (22 - (t + 1))
      case measure => have := TG.out; omega
      case rel => exact ⟨t + 1, by omega, by have := TG.out; omega, by simp, B22.out, P22.out⟩
    · have l1 : ¬ (t : Int) < 22 := by omega
      go_wp2_with (first | ((first | (refine load_b P20.out rfl _ rfl rfl ?_) | (refine load_bg P20.out rfl _ rfl rfl ?_)); simp only [Act.put, List.setIfInBounds_toArray, List.set_cons_zero, List.set_cons_succ]))
      with_reducible refine (SX.out _).mono ?_
      rintro q_ u21 ⟨rfl, hb⟩
      have B21 := Lib.hid (vian HN.out B20.out hb)
      have P21 := Lib.hid (P20.out.below hb)
      clear hb B20 P20
      go_wp2_with (refine store_b (Has.new u21 (enc zeroM) 29) (mc) rfl _ _ rfl rfl rfl ?_)
      intro u22 hP hk
      have Q_ := own1 u21 (.cells (enc zeroM) 29)
      have LC := Lib.hid (show n_ ≤ u21.heap.size from Nat.le_trans HN.out B21.out.size)
      have NPC := Lib.hid (show pb ≠ u21.heap.size from Nat.ne_of_lt P21.out.1)
      have B22 := Lib.hid (hk.below HN.out LC.out (vian HN.out B21.out Q_))
      have P22 := Lib.hid (hk.has NPC.out (P21.out.below Q_))
      have C22 := Lib.hid hP
      generalize u21.heap.size = cb at LC NPC C22 ⊢
      clear hk hP Q_ B21 P21
      try simp only [Act.put, List.setIfInBounds_toArray, List.set_cons_zero, List.set_cons_succ]
      go_upto_region 13 with (fail)
      have B23 := Lib.hid B22.out.drew
      have P23 := Lib.hid P22.out.drew
      have C23 := Lib.hid C22.out.drew
      clear B22 P22 C22
      refine wp_region_held_drew (S := (fun w' => (w'.rangeAt pb 0 (enc mc).toList) ∧ (w'.rangeAt cb 0 (enc mc).toList))) (by kernel_rfl) ⟨range_of_has P23.out, range_of_has C23.out⟩ (fun hHeld => ?_)
      generalize World.drew _ = u23 at hHeld B23 P23 C23 ⊢
      refine wpAnyH_take (i := 0) (oi := { dst := some 54, op := Go.Op.move (Go.Operand.tmp 1), type := 3, pos := "law.go:158", after := #[], guard := none }) (v := ?v39) rfl (by kernel_rfl) (by kernel_rfl) (by kernel_rfl) (fun _ _ _ h => h) (Or.inl ⟨by rfl, ?y39⟩) (by assumption) ?z39
      case y39 => (intro w hSw; (try dsimp only at hSw); go_simp) <;> with_reducible rfl
      try simp only [Act.put, List.setIfInBounds_toArray, List.set_cons_zero, List.set_cons_succ]
      refine wpAnyH_take (i := 1) (oi := { dst := some 55, op := Go.Op.binOp Go.BinOp.eql 3 (Go.Operand.tmp 54) (Go.Operand.const (Go.Value.int Go.IntKind.i64 22)) 3, type := 4, pos := "law.go:158", after := #[{ on := 0, ground := Go.Ground.data }], guard := none }) (v := ?v40) rfl (by kernel_rfl) (by kernel_rfl) (by kernel_rfl) (fun _ _ _ h => h) (Or.inl ⟨by rfl, ?y40⟩) (by assumption) ?z40
      case y40 => (intro w hSw; (try dsimp only at hSw); go_simp) <;> with_reducible rfl
      try simp only [Act.put, List.setIfInBounds_toArray, List.set_cons_zero, List.set_cons_succ]
      refine wpAnyH_take (i := 2) (oi := { dst := some 56, op := Go.Op.move (Go.Operand.tmp 55), type := 4, pos := "law.go:158", after := #[{ on := 1, ground := Go.Ground.data }], guard := none }) (v := ?v41) rfl (by kernel_rfl) (by kernel_rfl) (by kernel_rfl) (fun _ _ _ h => h) (Or.inl ⟨by rfl, ?y41⟩) (by assumption) ?z41
      case y41 => (intro w hSw; (try dsimp only at hSw); go_simp) <;> with_reducible rfl
      try simp only [Act.put, List.setIfInBounds_toArray, List.set_cons_zero, List.set_cons_succ]
      refine wpAnyH_take (i := 3) (oi := { dst := some 57, op := Go.Op.load 29 (Go.Operand.tmp 9), type := 29, pos := "law.go:158", after := #[{ on := 2, ground := Go.Ground.guard }], guard := some (2, false) }) (v := .agg (enc mc)) rfl (by kernel_rfl) (by kernel_rfl) (by kernel_rfl) (fun _ _ _ h => h) (yields_load mc cb (fun w hw => hw.2) (by rfl) _ rfl rfl) (by assumption) ?_
      try simp only [Act.put, List.setIfInBounds_toArray, List.set_cons_zero, List.set_cons_succ]
      refine wpAnyH_take (i := 4) (oi := { dst := some 58, op := Go.Op.load 29 (Go.Operand.tmp 7), type := 29, pos := "law.go:158", after := #[{ on := 2, ground := Go.Ground.guard }], guard := some (2, false) }) (v := .agg (enc mc)) rfl (by kernel_rfl) (by kernel_rfl) (by kernel_rfl) (fun _ _ _ h => h) (yields_load mc pb (fun w hw => hw.1) (by rfl) _ rfl rfl) (by assumption) ?_
      try simp only [Act.put, List.setIfInBounds_toArray, List.set_cons_zero, List.set_cons_succ]
      refine wpAnyH_take (i := 5) (oi := { dst := some 59, op := Go.Op.binOp Go.BinOp.eql 29 (Go.Operand.tmp 57) (Go.Operand.tmp 58) 29, type := 4, pos := "law.go:158", after := #[{ on := 3, ground := Go.Ground.data }, { on := 4, ground := Go.Ground.data }, { on := 2, ground := Go.Ground.guard }], guard := some (2, false) }) (v := .bool true) rfl (by kernel_rfl) (by kernel_rfl) (by kernel_rfl) (fun _ _ _ h => h) (yields_eq mc (by rfl) _ _ rfl rfl rfl) (by assumption) ?_
      try simp only [Act.put, List.setIfInBounds_toArray, List.set_cons_zero, List.set_cons_succ]
      refine wpAnyH_take (i := 6) (oi := { dst := some 60, op := Go.Op.pick (Go.Operand.tmp 56) (Go.Operand.const (Go.Value.bool true)) (Go.Operand.tmp 59), type := 4, pos := "law.go:158", after := #[{ on := 2, ground := Go.Ground.data }, { on := 5, ground := Go.Ground.data }], guard := none }) (v := ?v45) rfl (by kernel_rfl) (by kernel_rfl) (by kernel_rfl) (fun _ _ _ h => h) (Or.inl ⟨by rfl, ?y45⟩) (by assumption) ?z45
      case y45 => (intro w hSw; (try dsimp only at hSw); go_simp) <;> with_reducible rfl
      try simp only [Act.put, List.setIfInBounds_toArray, List.set_cons_zero, List.set_cons_succ]
      refine wpAnyH_take (i := 7) (oi := { dst := some 61, op := Go.Op.move (Go.Operand.tmp 60), type := 4, pos := "law.go:158", after := #[{ on := 6, ground := Go.Ground.data }, { on := 2, ground := Go.Ground.chain }], guard := none }) (v := ?v46) rfl (by kernel_rfl) (by kernel_rfl) (by kernel_rfl) (fun _ _ _ h => h) (Or.inl ⟨by rfl, ?y46⟩) (by assumption) ?z46
      case y46 => (intro w hSw; (try dsimp only at hSw); go_simp) <;> with_reducible rfl
      try simp only [Act.put, List.setIfInBounds_toArray, List.set_cons_zero, List.set_cons_succ]
      refine wpAnyH_take (i := 8) (oi := { dst := some 62, op := Go.Op.load 29 (Go.Operand.tmp 7), type := 29, pos := "law.go:158", after := #[{ on := 7, ground := Go.Ground.guard }], guard := some (7, true) }) (v := .agg (enc mc)) rfl (by kernel_rfl) (by kernel_rfl) (by kernel_rfl) (fun _ _ _ h => h) (yields_load mc pb (fun w hw => hw.1) (by rfl) _ rfl rfl) (by assumption) ?_
      try simp only [Act.put, List.setIfInBounds_toArray, List.set_cons_zero, List.set_cons_succ]
      refine wpAnyH_ready (rs := [9]) (by kernel_rfl) (by simp) ?_
      refine (AllReadyH.cons (o := { dst := some 63, op := Go.Op.call { callee := Go.Callee.value (Go.Operand.func 13), args := #[Go.Operand.tmp 62, Go.Operand.const (Go.Value.int Go.IntKind.i64 22)], argTypes := #[29, 3] }, type := 5, pos := "law.go:158", after := #[{ on := 8, ground := Go.Ground.data }, { on := 7, ground := Go.Ground.chain }, { on := 7, ground := Go.Ground.guard }], guard := some (7, true) }) rfl (fun K hK => ?_) AllReadyH.nil)
      · skip
        go_simp
        with_reducible refine (S22.out _ (HG.out.below N0.out B23.out)).mono ?_
        rintro q_ u24 ⟨rfl, hb⟩
        have B24 := Lib.hid (vian HN.out B23.out hb)
        have P24 := Lib.hid (P23.out.below hb)
        have C24 := Lib.hid (C23.out.below hb)
        clear hb B23 P23 C23
        refine hK.out _ _ ?s48 (fun hNew => ?r48)
        case s48 => exact ⟨range_of_has P24.out, range_of_has C24.out⟩
        clear hK K hHeld
        have hHeld := hNew
        clear hNew
        refine wpAnyH_take (i := 10) (oi := { dst := some 64, op := Go.Op.binOp Go.BinOp.eql 5 (Go.Operand.tmp 63) (Go.Operand.const (Go.Value.int Go.IntKind.u8 112)) 5, type := 4, pos := "law.go:158", after := #[{ on := 9, ground := Go.Ground.data }, { on := 7, ground := Go.Ground.guard }], guard := some (7, true) }) (v := ?v49) rfl (by kernel_rfl) (by kernel_rfl) (by kernel_rfl) (fun _ _ _ h => h) (Or.inl ⟨by rfl, ?y49⟩) (by assumption) ?z49
        case y49 => (intro w hSw; (try dsimp only at hSw); go_simp) <;> with_reducible rfl
        try simp only [Act.put, List.setIfInBounds_toArray, List.set_cons_zero, List.set_cons_succ]
        refine wpAnyH_take (i := 11) (oi := { dst := some 65, op := Go.Op.pick (Go.Operand.tmp 61) (Go.Operand.tmp 64) (Go.Operand.const (Go.Value.bool false)), type := 4, pos := "law.go:158", after := #[{ on := 7, ground := Go.Ground.data }, { on := 10, ground := Go.Ground.data }], guard := none }) (v := ?v50) rfl (by kernel_rfl) (by kernel_rfl) (by kernel_rfl) (fun _ _ _ h => h) (Or.inl ⟨by rfl, ?y50⟩) (by assumption) ?z50
        case y50 => (intro w hSw; (try dsimp only at hSw); go_simp) <;> with_reducible rfl
        try simp only [Act.put, List.setIfInBounds_toArray, List.set_cons_zero, List.set_cons_succ]
        refine wpAnyH_take (i := 12) (oi := { dst := some 66, op := Go.Op.move (Go.Operand.tmp 65), type := 4, pos := "law.go:158", after := #[{ on := 11, ground := Go.Ground.data }, { on := 9, ground := Go.Ground.chain }], guard := none }) (v := ?v51) rfl (by kernel_rfl) (by kernel_rfl) (by kernel_rfl) (fun _ _ _ h => h) (Or.inl ⟨by rfl, ?y51⟩) (by assumption) ?z51
        case y51 => (intro w hSw; (try dsimp only at hSw); go_simp) <;> with_reducible rfl
        try simp only [Act.put, List.setIfInBounds_toArray, List.set_cons_zero, List.set_cons_succ]
        refine wpAnyH_take (i := 13) (oi := { dst := some 67, op := Go.Op.load 29 (Go.Operand.tmp 7), type := 29, pos := "law.go:158", after := #[{ on := 12, ground := Go.Ground.guard }], guard := some (12, true) }) (v := .agg (enc mc)) rfl (by kernel_rfl) (by kernel_rfl) (by kernel_rfl) (fun _ _ _ h => h) (yields_load mc pb (fun w hw => hw.1) (by rfl) _ rfl rfl) (by assumption) ?_
        try simp only [Act.put, List.setIfInBounds_toArray, List.set_cons_zero, List.set_cons_succ]
        refine wpAnyH_take (i := 15) (oi := { dst := some 69, op := Go.Op.load 29 (Go.Operand.tmp 7), type := 29, pos := "law.go:158", after := #[{ on := 12, ground := Go.Ground.guard }], guard := some (12, true) }) (v := .agg (enc mc)) rfl (by kernel_rfl) (by kernel_rfl) (by kernel_rfl) (fun _ _ _ h => h) (yields_load mc pb (fun w hw => hw.1) (by rfl) _ rfl rfl) (by assumption) ?_
        try simp only [Act.put, List.setIfInBounds_toArray, List.set_cons_zero, List.set_cons_succ]
        refine wpAnyH_ready (rs := [14]) (by kernel_rfl) (by simp) ?_
        refine (AllReadyH.cons (o := { dst := some 68, op := Go.Op.call { callee := Go.Callee.value (Go.Operand.func 11), args := #[Go.Operand.tmp 67], argTypes := #[29] }, type := 29, pos := "law.go:158", after := #[{ on := 13, ground := Go.Ground.data }, { on := 12, ground := Go.Ground.chain }, { on := 12, ground := Go.Ground.guard }], guard := some (12, true) }) rfl (fun K hK => ?_) AllReadyH.nil)
        · skip
          go_simp
          with_reducible refine (ST.out _).mono ?_
          rintro q_ u25 ⟨rfl, hb⟩
          have B25 := Lib.hid (vian HN.out B24.out hb)
          have P25 := Lib.hid (P24.out.below hb)
          have C25 := Lib.hid (C24.out.below hb)
          clear hb B24 P24 C24
          refine hK.out _ _ ?s54 (fun hNew => ?r54)
          case s54 => exact ⟨range_of_has P25.out, range_of_has C25.out⟩
          clear hK K hHeld
          have hHeld := hNew
          clear hNew
          refine wpAnyH_take (i := 16) (oi := { dst := some 70, op := Go.Op.binOp Go.BinOp.eql 29 (Go.Operand.tmp 68) (Go.Operand.tmp 69) 29, type := 4, pos := "law.go:158", after := #[{ on := 14, ground := Go.Ground.data }, { on := 15, ground := Go.Ground.data }, { on := 12, ground := Go.Ground.guard }], guard := some (12, true) }) (v := .bool true) rfl (by kernel_rfl) (by kernel_rfl) (by kernel_rfl) (fun _ _ _ h => h) (yields_eq mc (by rfl) _ _ rfl rfl rfl) (by assumption) ?_
          try simp only [Act.put, List.setIfInBounds_toArray, List.set_cons_zero, List.set_cons_succ]
          refine wpAnyH_take (i := 17) (oi := { dst := some 71, op := Go.Op.pick (Go.Operand.tmp 66) (Go.Operand.tmp 70) (Go.Operand.const (Go.Value.bool false)), type := 4, pos := "law.go:158", after := #[{ on := 12, ground := Go.Ground.data }, { on := 16, ground := Go.Ground.data }], guard := none }) (v := ?v56) rfl (by kernel_rfl) (by kernel_rfl) (by kernel_rfl) (fun _ _ _ h => h) (Or.inl ⟨by rfl, ?y56⟩) (by assumption) ?z56
          case y56 => (intro w hSw; (try dsimp only at hSw); go_simp) <;> with_reducible rfl
          try simp only [Act.put, List.setIfInBounds_toArray, List.set_cons_zero, List.set_cons_succ]
          refine wpAnyH_take (i := 18) (oi := { dst := some 6, op := Go.Op.assign (Go.Operand.tmp 71), type := 4, pos := "law.go:158", after := #[{ on := 17, ground := Go.Ground.data }, { on := 14, ground := Go.Ground.chain }, { on := 0, ground := Go.Ground.phase }, { on := 1, ground := Go.Ground.phase }, { on := 2, ground := Go.Ground.phase }, { on := 3, ground := Go.Ground.phase }, { on := 4, ground := Go.Ground.phase }, { on := 5, ground := Go.Ground.phase }, { on := 6, ground := Go.Ground.phase }, { on := 7, ground := Go.Ground.phase }, { on := 8, ground := Go.Ground.phase }, { on := 9, ground := Go.Ground.phase }, { on := 10, ground := Go.Ground.phase }, { on := 11, ground := Go.Ground.phase }, { on := 12, ground := Go.Ground.phase }, { on := 13, ground := Go.Ground.phase }, { on := 14, ground := Go.Ground.phase }, { on := 15, ground := Go.Ground.phase }, { on := 16, ground := Go.Ground.phase }, { on := 17, ground := Go.Ground.phase }], guard := none }) (v := ?v57) rfl (by kernel_rfl) (by kernel_rfl) (by kernel_rfl) (fun _ _ _ h => h) (Or.inl ⟨by rfl, ?y57⟩) (by assumption) ?z57
          case y57 => (intro w hSw; (try dsimp only at hSw); go_simp) <;> with_reducible rfl
          try simp only [Act.put, List.setIfInBounds_toArray, List.set_cons_zero, List.set_cons_succ]
          refine wpAnyH_done (by kernel_rfl) ?_ _
          clear hHeld
          go_wp2
          all_goals exact bodyPost_ret (v := .bool true) (by simp [results, Tryd.results5, go_sem]) rfl ⟨rfl, B25.out⟩
theorem off_walk (a : Option Addr) (n c : Nat) (f g h : Nat → Int) (hh : ∀ i, 0 ≤ h i ∧ h i < 256) (k x : Int) (g0 : 0 ≤ x) (g1 : x < 256) (w : World) (hmem : (0 < n → ∃ qb qo, a = some ⟨qb, qo, none⟩ ∧ qb < w.heap.size ∧ ∀ j, j < n → w.cell? ⟨qb, qo + j * 3, none⟩ = some (.int .i64 (f j)) ∧ w.cell? ⟨qb, qo + j * 3 + 1, none⟩ = some (.int .i64 (g j)) ∧ w.cell? ⟨qb, qo + j * 3 + 2, none⟩ = some (.int .u8 (h j)))) (hg : Glob w) :
    Calls Tryd.prog 5 #[.slice a n c, .int .i64 k, .int .u8 x] w fun q_ w' => q_ = .returned (.bool true) ∧ Below w.heap.size w w' := by
  by_cases h0 : 40 < n
  · exact off_long a n c k x h0 w hg
  · by_cases h1 : k = 22
    · exact off_p a n c f g h hh k x (by omega) g0 g1 h1 w hmem hg
    · by_cases h2 : 32 ≤ k ∧ k < 48
      · exact off_w a n c f g h hh k x (by omega) g0 g1 k.toNat (by omega) (by omega) (by omega) w hmem hg
      · by_cases h3 : k < 32
        · exact off_o a n c f g h hh k x (by omega) g0 g1 h1 h2 h3 w hmem hg
        · exact off_q a n c f g h hh k x (by omega) g0 g1 h1 h2 h3 w hmem hg
end Go.Proofs.YtonmnpadmphbdaaDoor
