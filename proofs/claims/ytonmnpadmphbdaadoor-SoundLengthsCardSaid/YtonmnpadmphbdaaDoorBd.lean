/-
  Tick, Read, Write and what they call, on boards by value: for every board; no condition but that each number fits.
-/
import Derived.Test.YtonmnpadmphbdaaDoorFx
import Derived.Deep.Cut
import Derived.BigQuiet
import Derived.WalkSmall
import Derived.Deep.LoopGhost
namespace Go.Proofs.YtonmnpadmphbdaaDoor
open Go.ChangeShapes Go.WideShapes Go.ChangeAt Go.RowKit
set_option linter.unusedVariables false
set_option linter.unusedSimpArgs false
set_option maxRecDepth 100000
theorem and7i (p : Int) (h0 : 0 ≤ p) (h1 : p < 8) : bits .and .i64 (p + 1) 7 = (p + 1) % 8 := by
  have h : ∀ i : Fin 8, bits .and .i64 ((i.val : Int) + 1) 7 = ((i.val : Int) + 1) % 8 := by decide +kernel
  have := h ⟨p.toNat, by omega⟩
  simpa [Int.toNat_of_nonneg h0] using this
set_option maxHeartbeats 2000000 in
theorem tick_off (m : M) (h48 : ¬ m 48 = 1) (w : World) : Calls Tryd.prog 11 #[.agg (enc m)] w fun q_ w' => q_ = .returned (.agg (enc m)) ∧ Below w.heap.size w w' := by
  suffices hall : ∀ (n_ : Nat) (W0 : World), n_ ≤ W0.heap.size → Below n_ W0 w → Calls Tryd.prog 11 #[.agg (enc m)] w fun q_ w' => q_ = .returned (.agg (enc m)) ∧ Below n_ W0 w' from hall _ _ (Nat.le_refl _) (Below.refl _ _)
  intro n_ W0 hn hB
  have HN := Lib.hid hn
  have BB := Lib.hid hB
  clear hn hB
  have H48 := Lib.hid h48
  clear h48
  have hz29 : ∀ w : World, (zeroValue 29).run Tryd.prog w = .ok (.agg (enc zeroM)) w := zero29
  have hnot : ∀ (x : Bool) (w : World), (Op.unary .not (.bool x)).run Tryd.prog w = .ok (.bool (!x)) w := fun _ _ => rfl
  go_enter Tryd.func11, Tryd.ntmps11
  have Q_ := own2 w (.cells (enc m) 29) (.cells (enc zeroM) 29)
  have B0 := Lib.hid (vian HN.out BB.out Q_)
  have P0 := Lib.hid (show Has ((w.alloc (.cells (enc m) 29)).alloc (.cells (enc zeroM) 29)) w.heap.size (enc m) by simpa using (Has.new w (enc m) 29).alloc (.cells (enc zeroM) 29))
  have LP := Lib.hid (show n_ ≤ w.heap.size + 0 from Nat.le_add_right_of_le (Nat.le_trans HN.out BB.out.size))
  have R0 := Lib.hid (show Has ((w.alloc (.cells (enc m) 29)).alloc (.cells (enc zeroM) 29)) (w.heap.size + 1) (enc zeroM) by simpa using Has.new (w.alloc (.cells (enc m) 29)) (enc zeroM) 29)
  have LR := Lib.hid (show n_ ≤ (w.heap.size + 1) from Nat.le_add_right_of_le (Nat.le_trans HN.out BB.out.size))
  have NPR := Lib.hid (show w.heap.size + 0 ≠ w.heap.size + 1 by omega)
  simp only [Nat.add_zero] at LP NPR
  clear Q_
  go_upto_region 1 with (fail)
  generalize ((w.alloc (.cells (enc m) 29)).alloc (.cells (enc zeroM) 29)) = u0 at B0 P0 R0 ⊢
  generalize w.heap.size + 1 = rb at R0 LR NPR ⊢
  generalize w.heap.size = pb at P0 LP NPR ⊢
  obtain ⟨hc, hf⟩ := P0.out.out
  have e0 : (enc (m))[48]? = some (.bool false) := by rw [enc_b _ _ rfl (by omega)]; rw [decide_eq_false H48.out]
  go_wp2_with (first | (refine load_b P0.out rfl _ rfl rfl ?_; simp only [Act.put, List.setIfInBounds_toArray, List.set_cons_zero, List.set_cons_succ]) | (refine store_b R0.out (m) rfl _ _ rfl rfl rfl ?_))
  intro u1 hP hk
  have R1 := Lib.hid hP
  have B1 := Lib.hid (hk.below HN.out LR.out B0.out)
  have P1 := Lib.hid (hk.has NPR.out P0.out)
  clear hk hP B0 P0 R0
  try simp only [Act.put]
  go_wp2_with (fail)
  all_goals exact bodyPost_ret (results_b rfl _ rfl R1.out) rfl ⟨rfl, B1.out⟩
set_option maxHeartbeats 2000000 in
theorem tick_go (m : M) (d : Int) (h48 : m 48 = 1) (hd : m 49 = d) (d0 : 0 ≤ d) (d1 : d < 2048) (h2 : ¬ d + 1 = 2048) (w : World) : Calls Tryd.prog 11 #[.agg (enc m)] w fun q_ w' => q_ = .returned (.agg (enc (upd m 49 (d + 1)))) ∧ Below w.heap.size w w' := by
  suffices hall : ∀ (n_ : Nat) (W0 : World), n_ ≤ W0.heap.size → Below n_ W0 w → Calls Tryd.prog 11 #[.agg (enc m)] w fun q_ w' => q_ = .returned (.agg (enc (upd m 49 (d + 1)))) ∧ Below n_ W0 w' from hall _ _ (Nat.le_refl _) (Below.refl _ _)
  intro n_ W0 hn hB
  have HN := Lib.hid hn
  have BB := Lib.hid hB
  clear hn hB
  have H48 := Lib.hid h48
  have HD := Lib.hid hd
  clear h48 hd
  have hz29 : ∀ w : World, (zeroValue 29).run Tryd.prog w = .ok (.agg (enc zeroM)) w := zero29
  have hnot : ∀ (x : Bool) (w : World), (Op.unary .not (.bool x)).run Tryd.prog w = .ok (.bool (!x)) w := fun _ _ => rfl
  go_enter Tryd.func11, Tryd.ntmps11
  have Q_ := own2 w (.cells (enc m) 29) (.cells (enc zeroM) 29)
  have B0 := Lib.hid (vian HN.out BB.out Q_)
  have P0 := Lib.hid (show Has ((w.alloc (.cells (enc m) 29)).alloc (.cells (enc zeroM) 29)) w.heap.size (enc m) by simpa using (Has.new w (enc m) 29).alloc (.cells (enc zeroM) 29))
  have LP := Lib.hid (show n_ ≤ w.heap.size + 0 from Nat.le_add_right_of_le (Nat.le_trans HN.out BB.out.size))
  have R0 := Lib.hid (show Has ((w.alloc (.cells (enc m) 29)).alloc (.cells (enc zeroM) 29)) (w.heap.size + 1) (enc zeroM) by simpa using Has.new (w.alloc (.cells (enc m) 29)) (enc zeroM) 29)
  have LR := Lib.hid (show n_ ≤ (w.heap.size + 1) from Nat.le_add_right_of_le (Nat.le_trans HN.out BB.out.size))
  have NPR := Lib.hid (show w.heap.size + 0 ≠ w.heap.size + 1 by omega)
  simp only [Nat.add_zero] at LP NPR
  clear Q_
  go_upto_region 1 with (fail)
  generalize ((w.alloc (.cells (enc m) 29)).alloc (.cells (enc zeroM) 29)) = u0 at B0 P0 R0 ⊢
  generalize w.heap.size + 1 = rb at R0 LR NPR ⊢
  generalize w.heap.size = pb at P0 LP NPR ⊢
  obtain ⟨hc, hf⟩ := P0.out.out
  have e0 : (enc (m))[48]? = some (.bool true) := by rw [enc_b _ _ rfl (by omega)]; rw [decide_eq_true H48.out]
  have e1 : (enc (m))[49]? = some (.int .i64 d) := by rw [enc_i _ _ rfl (by omega) (by omega)]; rw [HD.out]
  go_wp2_with (refine store_i P0.out rfl _ _ rfl _ rfl _ rfl (by rfl) (by omega) (by omega) ?_)
  intro u1 hP hk
  replace hP : Has u1 pb (enc (upd m 49 (d + 1))) := hP
  have P1 := Lib.hid hP
  have B1 := Lib.hid (hk.below HN.out LP.out B0.out)
  have R1 := Lib.hid (hk.has (Ne.symm NPR.out) R0.out)
  clear hk hP B0 P0 R0
  try simp only [Act.put]
  clear hc hf e0 e1
  obtain ⟨hc, hf⟩ := P1.out.out
  have e0 : (enc (upd m 49 (d + 1)))[49]? = some (.int .i64 (d + 1)) := by rw [enc_i _ _ rfl (by omega) (by omega)]; rw [upd_same]
  go_wp2_with (first | (refine load_b P1.out rfl _ rfl rfl ?_; simp only [Act.put, List.setIfInBounds_toArray, List.set_cons_zero, List.set_cons_succ]) | (refine store_b R1.out (upd m 49 (d + 1)) rfl _ _ rfl rfl rfl ?_))
  intro u2 hP hk
  have R2 := Lib.hid hP
  have B2 := Lib.hid (hk.below HN.out LR.out B1.out)
  have P2 := Lib.hid (hk.has NPR.out P1.out)
  clear hk hP B1 P1 R1
  try simp only [Act.put]
  go_wp2_with (fail)
  all_goals exact bodyPost_ret (results_b rfl _ rfl R2.out) rfl ⟨rfl, B2.out⟩
set_option maxHeartbeats 2000000 in
theorem tick_beat (m m1 : M) (p : Int) (h48 : m 48 = 1) (hd : m 49 = 2047) (hp : m1 50 = p) (p0 : 0 ≤ p) (p1 : p < 8) (H : ∀ b W, Has W b (enc (upd m 49 0)) → Calls Tryd.prog 18 #[.pointer (some ⟨b, 0, none⟩)] W fun q_ w' => q_ = .returned (.tuple #[]) ∧ Has w' b (enc m1) ∧ Keeps b W w') (w : World) : Calls Tryd.prog 11 #[.agg (enc m)] w fun q_ w' => q_ = .returned (.agg (enc (upd m1 50 ((p + 1) % 8)))) ∧ Below w.heap.size w w' := by
  suffices hall : ∀ (n_ : Nat) (W0 : World), n_ ≤ W0.heap.size → Below n_ W0 w → Calls Tryd.prog 11 #[.agg (enc m)] w fun q_ w' => q_ = .returned (.agg (enc (upd m1 50 ((p + 1) % 8)))) ∧ Below n_ W0 w' from hall _ _ (Nat.le_refl _) (Below.refl _ _)
  intro n_ W0 hn hB
  have HN := Lib.hid hn
  have BB := Lib.hid hB
  clear hn hB
  have H48 := Lib.hid h48
  have HD := Lib.hid hd
  have HP := Lib.hid hp
  have SH := Lib.hid H
  have q7 := and7i p p0 p1
  clear h48 hd hp H
  have hz29 : ∀ w : World, (zeroValue 29).run Tryd.prog w = .ok (.agg (enc zeroM)) w := zero29
  have hnot : ∀ (x : Bool) (w : World), (Op.unary .not (.bool x)).run Tryd.prog w = .ok (.bool (!x)) w := fun _ _ => rfl
  go_enter Tryd.func11, Tryd.ntmps11
  have Q_ := own2 w (.cells (enc m) 29) (.cells (enc zeroM) 29)
  have B0 := Lib.hid (vian HN.out BB.out Q_)
  have P0 := Lib.hid (show Has ((w.alloc (.cells (enc m) 29)).alloc (.cells (enc zeroM) 29)) w.heap.size (enc m) by simpa using (Has.new w (enc m) 29).alloc (.cells (enc zeroM) 29))
  have LP := Lib.hid (show n_ ≤ w.heap.size + 0 from Nat.le_add_right_of_le (Nat.le_trans HN.out BB.out.size))
  have R0 := Lib.hid (show Has ((w.alloc (.cells (enc m) 29)).alloc (.cells (enc zeroM) 29)) (w.heap.size + 1) (enc zeroM) by simpa using Has.new (w.alloc (.cells (enc m) 29)) (enc zeroM) 29)
  have LR := Lib.hid (show n_ ≤ (w.heap.size + 1) from Nat.le_add_right_of_le (Nat.le_trans HN.out BB.out.size))
  have NPR := Lib.hid (show w.heap.size + 0 ≠ w.heap.size + 1 by omega)
  simp only [Nat.add_zero] at LP NPR
  clear Q_
  go_upto_region 1 with (fail)
  generalize ((w.alloc (.cells (enc m) 29)).alloc (.cells (enc zeroM) 29)) = u0 at B0 P0 R0 ⊢
  generalize w.heap.size + 1 = rb at R0 LR NPR ⊢
  generalize w.heap.size = pb at P0 LP NPR ⊢
  obtain ⟨hc, hf⟩ := P0.out.out
  have e0 : (enc (m))[48]? = some (.bool true) := by rw [enc_b _ _ rfl (by omega)]; rw [decide_eq_true H48.out]
  have e1 : (enc (m))[49]? = some (.int .i64 2047) := by rw [enc_i _ _ rfl (by omega) (by omega)]; rw [HD.out]
  go_wp2_with (refine store_i P0.out rfl _ _ rfl _ rfl _ rfl (by rfl) (by omega) (by omega) ?_)
  intro u1 hP hk
  replace hP : Has u1 pb (enc (upd m 49 2048)) := hP
  have P1 := Lib.hid hP
  have B1 := Lib.hid (hk.below HN.out LP.out B0.out)
  have R1 := Lib.hid (hk.has (Ne.symm NPR.out) R0.out)
  clear hk hP B0 P0 R0
  try simp only [Act.put]
  clear hc hf e0 e1
  obtain ⟨hc, hf⟩ := P1.out.out
  have e0 : (enc (upd m 49 2048))[49]? = some (.int .i64 2048) := by rw [enc_i _ _ rfl (by omega) (by omega)]; rw [upd_same]
  go_wp2_with (refine store_i P1.out rfl _ _ rfl _ rfl _ rfl (by rfl) (by omega) (by omega) ?_)
  intro u2 hP hk
  replace hP : Has u2 pb (enc (upd (upd m 49 2048) 49 0)) := hP
  have P2 := Lib.hid hP
  have B2 := Lib.hid (hk.below HN.out LP.out B1.out)
  have R2 := Lib.hid (hk.has (Ne.symm NPR.out) R1.out)
  clear hk hP B1 P1 R1
  try simp only [Act.put]
  clear hc hf e0
  have hu := upd_upd m 49 2048 0
  rw [hu] at P2
  clear hu
  go_wp2_with (fail)
  with_reducible refine (SH.out _ _ P2.out).mono ?_
  rintro q_ u3 ⟨rfl, hP, hk⟩
  have P3 := Lib.hid hP
  have B3 := Lib.hid (hk.below HN.out LP.out B2.out)
  have R3 := Lib.hid (hk.has (Ne.symm NPR.out) R2.out)
  clear hk hP B2 P2 R2
  obtain ⟨hc, hf⟩ := P3.out.out
  have e0 : (enc (m1))[50]? = some (.int .i64 p) := by rw [enc_i _ _ rfl (by omega) (by omega)]; rw [HP.out]
  go_wp2_with (refine store_i P3.out rfl _ _ rfl _ rfl _ rfl (by rfl) (by omega) (by omega) ?_)
  intro u4 hP hk
  replace hP : Has u4 pb (enc (upd m1 50 ((p + 1) % 8))) := hP
  have P4 := Lib.hid hP
  have B4 := Lib.hid (hk.below HN.out LP.out B3.out)
  have R4 := Lib.hid (hk.has (Ne.symm NPR.out) R3.out)
  clear hk hP B3 P3 R3
  try simp only [Act.put]
  clear hc hf e0
  go_wp2_with (first | (refine load_b P4.out rfl _ rfl rfl ?_; simp only [Act.put, List.setIfInBounds_toArray, List.set_cons_zero, List.set_cons_succ]) | (refine store_b R4.out (upd m1 50 ((p + 1) % 8)) rfl _ _ rfl rfl rfl ?_))
  intro u5 hP hk
  have R5 := Lib.hid hP
  have B5 := Lib.hid (hk.below HN.out LR.out B4.out)
  have P5 := Lib.hid (hk.has NPR.out P4.out)
  clear hk hP B4 P4 R4
  try simp only [Act.put]
  go_wp2_with (fail)
  all_goals exact bodyPost_ret (results_b rfl _ rfl R5.out) rfl ⟨rfl, B5.out⟩
theorem tick_c (m : M) (h : okM m) (w : World) : Calls Tryd.prog 11 #[.agg (enc m)] w fun q_ w' => q_ = .returned (.agg (enc (tickV m))) ∧ Below w.heap.size w w' := by
  have hd := h.div
  unfold tickV
  by_cases g : m 48 = 1
  · rw [if_pos g]
    by_cases g2 : m 49 + 1 = 2048
    · rw [if_pos g2]
      have k := ok_upd h 49 0 (by decide) (by decide)
      have hs := (ok_perf k).step
      exact tick_beat m _ _ g (by omega) rfl hs.1 hs.2 (fun b W hW => perform_c b _ k W hW) w
    · rw [if_neg g2]; exact tick_go m _ g rfl hd.1 hd.2 g2 w
  · rw [if_neg g]; exact tick_off m g w
end Go.Proofs.YtonmnpadmphbdaaDoor
