/-
  Read and Write: for every board; no condition but that each number fits, and that the table of the masks lies as it is laid.
-/
import Derived.Test.YtonmnpadmphbdaaDoorRd
import Derived.Deep.Cut
import Derived.BigQuiet
import Derived.WalkSmall
namespace Go.Proofs.YtonmnpadmphbdaaDoor
open Go.ChangeShapes Go.WideShapes Go.ChangeAt Go.RowKit
set_option linter.unusedVariables false
set_option linter.unusedSimpArgs false
set_option maxRecDepth 100000
set_option maxHeartbeats 2000000 in
theorem read_bad (m : M) (n : Int) (HE : ∀ W, Calls Tryd.prog 16 #[.int .i64 n] W fun q_ w' => q_ = .returned (.bool false) ∧ w' = W)  (w : World) : Calls Tryd.prog 13 #[.agg (enc m), .int .i64 n] w fun q_ w' => q_ = .returned (.int .u8 255) ∧ Below w.heap.size w w' := by
  suffices hall : ∀ (n_ : Nat) (W0 : World), n_ ≤ W0.heap.size → Below n_ W0 w → Calls Tryd.prog 13 #[.agg (enc m), .int .i64 n] w fun q_ w' => q_ = .returned (.int .u8 255) ∧ Below n_ W0 w' from hall _ _ (Nat.le_refl _) (Below.refl _ _)
  intro n_ W0 hn hB
  have HN := Lib.hid hn
  have BB := Lib.hid hB
  clear hn hB
  have SE := Lib.hid HE
  clear HE
  have hnot : ∀ (x : Bool) (w : World), (Op.unary .not (.bool x)).run Tryd.prog w = .ok (.bool (!x)) w := fun _ _ => rfl
  go_enter Tryd.func13, Tryd.ntmps13
  have Q_ := own1 w (.cells (enc m) 29)
  have B0 := Lib.hid (vian HN.out BB.out Q_)
  have P0 := Lib.hid (show Has (w.alloc (.cells (enc m) 29)) w.heap.size (enc m) by simpa using Has.new w (enc m) 29)
  have LP := Lib.hid (show n_ ≤ w.heap.size + 0 from Nat.le_add_right_of_le (Nat.le_trans HN.out BB.out.size))
  simp only [Nat.add_zero] at LP
  clear Q_
  go_upto_region 1 with (fail)
  generalize (w.alloc (.cells (enc m) 29)) = u0 at B0 P0 ⊢
  generalize w.heap.size = pb at P0 LP  ⊢
  go_wp2_with (fail)
  with_reducible refine (SE.out _).mono ?_
  rintro q_ w' ⟨rfl, rfl⟩
  go_wp2_with (fail)
  all_goals exact bodyPost_ret (v := .int .u8 255) (by simp [results, Tryd.results13, go_sem]) rfl ⟨rfl, B0.out⟩
set_option maxHeartbeats 2000000 in
theorem read_reg (m : M) (n : Int) (nn : Nat) (hn : n = nn) (h48 : nn < 48) (h22 : ¬ nn = 22) (x k r : Int) (hx : m nn = x) (hk : mask nn = k) (hr : bits .or .u8 x k = r) (HE : ∀ W, Calls Tryd.prog 16 #[.int .i64 n] W fun q_ w' => q_ = .returned (.bool true) ∧ w' = W)  (w : World) (hg : Glob w) : Calls Tryd.prog 13 #[.agg (enc m), .int .i64 n] w fun q_ w' => q_ = .returned (.int .u8 r) ∧ Below w.heap.size w w' := by
  suffices hall : ∀ (n_ : Nat) (W0 : World), n_ ≤ W0.heap.size → Below n_ W0 w → Glob W0 → 0 < n_ → Calls Tryd.prog 13 #[.agg (enc m), .int .i64 n] w fun q_ w' => q_ = .returned (.int .u8 r) ∧ Below n_ W0 w' from hall _ _ (Nat.le_refl _) (Below.refl _ _) hg hg.1
  clear hg
  intro n_ W0 hn hB hG hn0
  have HN := Lib.hid hn
  have BB := Lib.hid hB
  have HG := Lib.hid hG
  have N0 := Lib.hid hn0
  clear hn hB hG hn0
  subst hn
  have SE := Lib.hid HE
  have HX := Lib.hid hx
  have HK := Lib.hid hk
  clear HE hx hk
  have i22 : ((nn : Int) == 22) = false := by simp; omega
  have i48 : (nn : Int) < 48 := by omega
  have hnot : ∀ (x : Bool) (w : World), (Op.unary .not (.bool x)).run Tryd.prog w = .ok (.bool (!x)) w := fun _ _ => rfl
  go_enter Tryd.func13, Tryd.ntmps13
  have Q_ := own1 w (.cells (enc m) 29)
  have B0 := Lib.hid (vian HN.out BB.out Q_)
  have P0 := Lib.hid (show Has (w.alloc (.cells (enc m) 29)) w.heap.size (enc m) by simpa using Has.new w (enc m) 29)
  have LP := Lib.hid (show n_ ≤ w.heap.size + 0 from Nat.le_add_right_of_le (Nat.le_trans HN.out BB.out.size))
  simp only [Nat.add_zero] at LP
  clear Q_
  go_upto_region 1 with (fail)
  generalize (w.alloc (.cells (enc m) 29)) = u0 at B0 P0 ⊢
  generalize w.heap.size = pb at P0 LP  ⊢
  go_wp2_with (fail)
  with_reducible refine (SE.out _).mono ?_
  rintro q_ w' ⟨rfl, rfl⟩
  obtain ⟨hc, hf⟩ := P0.out.out
  have e0 : (enc (m))[nn]? = some (.int .u8 x) := by rw [enc_u8 _ _ (by omega)]; rw [HX.out]
  have eg := (HG.out.below N0.out B0.out).2 nn h48
  rw [HK.out] at eg
  go_wp2_with (fail)
  all_goals exact bodyPost_ret (v := .int .u8 r) (by simp [results, Tryd.results13, go_sem]) rfl ⟨rfl, B0.out⟩
set_option maxHeartbeats 2000000 in
theorem read_22 (m : M) (s r : Int) (hs : statusV m = s) (hr : bits .or .u8 s 112 = r) (HE : ∀ W, Calls Tryd.prog 16 #[.int .i64 22] W fun q_ w' => q_ = .returned (.bool true) ∧ w' = W)  (w : World) (hg : Glob w) : Calls Tryd.prog 13 #[.agg (enc m), .int .i64 22] w fun q_ w' => q_ = .returned (.int .u8 r) ∧ Below w.heap.size w w' := by
  suffices hall : ∀ (n_ : Nat) (W0 : World), n_ ≤ W0.heap.size → Below n_ W0 w → Glob W0 → 0 < n_ → Calls Tryd.prog 13 #[.agg (enc m), .int .i64 22] w fun q_ w' => q_ = .returned (.int .u8 r) ∧ Below n_ W0 w' from hall _ _ (Nat.le_refl _) (Below.refl _ _) hg hg.1
  clear hg
  intro n_ W0 hn hB hG hn0
  have HN := Lib.hid hn
  have BB := Lib.hid hB
  have HG := Lib.hid hG
  have N0 := Lib.hid hn0
  clear hn hB hG hn0
  have SE := Lib.hid HE
  clear HE
  have SS := Lib.hid (fun (W : World) => (show Calls Tryd.prog 19 #[.agg (enc m)] W fun q_ w' => q_ = .returned (.int .u8 s) ∧ Below W.heap.size W w' from by subst hs; by_cases g : m 48 = 1; exact status_1 m g W; exact status_0 m g W))
  clear hs
  have hnot : ∀ (x : Bool) (w : World), (Op.unary .not (.bool x)).run Tryd.prog w = .ok (.bool (!x)) w := fun _ _ => rfl
  go_enter Tryd.func13, Tryd.ntmps13
  have Q_ := own1 w (.cells (enc m) 29)
  have B0 := Lib.hid (vian HN.out BB.out Q_)
  have P0 := Lib.hid (show Has (w.alloc (.cells (enc m) 29)) w.heap.size (enc m) by simpa using Has.new w (enc m) 29)
  have LP := Lib.hid (show n_ ≤ w.heap.size + 0 from Nat.le_add_right_of_le (Nat.le_trans HN.out BB.out.size))
  simp only [Nat.add_zero] at LP
  clear Q_
  go_upto_region 1 with (fail)
  generalize (w.alloc (.cells (enc m) 29)) = u0 at B0 P0 ⊢
  generalize w.heap.size = pb at P0 LP  ⊢
  go_wp2_with (fail)
  with_reducible refine (SE.out _).mono ?_
  rintro q_ w' ⟨rfl, rfl⟩
  obtain ⟨hc, hf⟩ := P0.out.out
  have e22 := enc_u8 m 22 (by omega)
  have eg := (HG.out.below N0.out B0.out).2 22 (by omega)
  go_upto_region 5 with (fail)
  clear hc hf e22 eg
  go_wp2_with (first | (refine load_b P0.out rfl _ rfl rfl ?_; simp only [Act.put, List.setIfInBounds_toArray, List.set_cons_zero, List.set_cons_succ]))
  with_reducible refine (SS.out _).mono ?_
  rintro q_ u1 ⟨rfl, hb⟩
  have B1 := Lib.hid (vian HN.out B0.out hb)
  have P1 := Lib.hid (P0.out.below hb)
  clear hb B0 P0
  have eg : _ = some (Value.int .u8 112) := (HG.out.below N0.out B1.out).2 22 (by omega)
  go_wp2_with (fail)
  all_goals exact bodyPost_ret (v := .int .u8 r) (by simp [results, Tryd.results13, go_sem]) rfl ⟨rfl, B1.out⟩
theorem exists_c (n : Int) (w : World) : Calls Tryd.prog 16 #[.int .i64 n] w fun q_ w' => q_ = .returned (.bool (decide (¬ (n < 0 ∨ 48 ≤ n)))) ∧ w' = w := by
  by_cases g : n < 0
  · rw [decide_eq_false (by omega)]; exact exists_0 n g w
  · by_cases g2 : n < 48
    · rw [decide_eq_true (by omega)]; exact exists_1 n (by omega) g2 w
    · rw [decide_eq_false (by omega)]; exact exists_2 n (by omega) (by omega) w
theorem read_c (m : M) (n : Int) (w : World) (hg : Glob w) : Calls Tryd.prog 13 #[.agg (enc m), .int .i64 n] w fun q_ w' => q_ = .returned (.int .u8 (readV m n)) ∧ Below w.heap.size w w' := by
  have he := exists_c n
  unfold readV
  by_cases g : n < 0 ∨ 48 ≤ n
  · rw [if_pos g]
    rw [decide_eq_false (fun k => k g)] at he
    exact read_bad m n he w
  · rw [if_neg g]
    rw [decide_eq_true g] at he
    by_cases g2 : n = 22
    · subst g2
      rw [if_pos rfl]
      exact read_22 m _ _ rfl rfl he w hg
    · rw [if_neg g2]
      exact read_reg m n n.toNat (by omega) (by omega) (by omega) _ _ _ rfl rfl rfl he w hg
set_option maxHeartbeats 2000000 in
theorem write_221 (m : M) (x : Int) (g0 : 0 ≤ x) (g1 : x < 256) (hd : 128 ≤ x) (m9 : M) (H : ∀ W, Calls Tryd.prog 15 #[.agg (enc m), .bool true] W fun q_ w' => q_ = .returned (.agg (enc m9)) ∧ Below W.heap.size W w') (w : World) : Calls Tryd.prog 10 #[.agg (enc m), .int .i64 22, .int .u8 x] w fun q_ w' => q_ = .returned (.agg (enc m9)) ∧ Below w.heap.size w w' := by
  suffices hall : ∀ (n_ : Nat) (W0 : World), n_ ≤ W0.heap.size → Below n_ W0 w → Calls Tryd.prog 10 #[.agg (enc m), .int .i64 22, .int .u8 x] w fun q_ w' => q_ = .returned (.agg (enc m9)) ∧ Below n_ W0 w' from hall _ _ (Nat.le_refl _) (Below.refl _ _)
  intro n_ W0 hn hB
  have HN := Lib.hid hn
  have BB := Lib.hid hB
  clear hn hB
  have SH := Lib.hid H
  clear H
  have q1 : (bits .and .u8 x 128 != 0) = true := (b128 x g0 g1).trans (by simpa using hd)
  have hz29 : ∀ w : World, (zeroValue 29).run Tryd.prog w = .ok (.agg (enc zeroM)) w := zero29
  go_enter Tryd.func10, Tryd.ntmps10
  have Q_ := own2 w (.cells (enc m) 29) (.cells (enc zeroM) 29)
  have B0 := Lib.hid (vian HN.out BB.out Q_)
  have P0 := Lib.hid (show Has ((w.alloc (.cells (enc m) 29)).alloc (.cells (enc zeroM) 29)) w.heap.size (enc m) by simpa using (Has.new w (enc m) 29).alloc (.cells (enc zeroM) 29))
  have LP := Lib.hid (show n_ ≤ w.heap.size + 0 from Nat.le_add_right_of_le (Nat.le_trans HN.out BB.out.size))
  have R0 := Lib.hid (show Has ((w.alloc (.cells (enc m) 29)).alloc (.cells (enc zeroM) 29)) (w.heap.size + 1) (enc zeroM) by simpa using Has.new (w.alloc (.cells (enc m) 29)) (enc zeroM) 29)
  have LR := Lib.hid (show n_ ≤ (w.heap.size + 1) from Nat.le_add_right_of_le (Nat.le_trans HN.out BB.out.size))
  have NPR := Lib.hid (show w.heap.size + 0 ≠ w.heap.size + 1 by omega)
  simp only [Nat.add_zero] at LP NPR
  clear Q_
  go_upto_region 1 with (fail)
  generalize ((w.alloc (.cells (enc m) 29)).alloc (.cells (enc zeroM) 29)) = u0 at B0 P0 R0 ⊢
  generalize w.heap.size + 1 = rb at R0 LR NPR ⊢
  generalize w.heap.size = pb at P0 LP NPR ⊢
  go_wp2_with (first | (refine load_b P0.out rfl _ rfl rfl ?_; simp only [Act.put, List.setIfInBounds_toArray, List.set_cons_zero, List.set_cons_succ]))
  with_reducible refine (SH.out _).mono ?_
  rintro q_ u1 ⟨rfl, hb⟩
  have B1 := Lib.hid (vian HN.out B0.out hb)
  have P1 := Lib.hid (P0.out.below hb)
  have R1 := Lib.hid (R0.out.below hb)
  clear hb B0 P0 R0
  go_wp2_with (refine store_b R1.out (m9) rfl _ _ rfl rfl rfl ?_)
  intro u2 hP hk
  have R2 := Lib.hid hP
  have B2 := Lib.hid (hk.below HN.out LR.out B1.out)
  have P2 := Lib.hid (hk.has NPR.out P1.out)
  clear hk hP B1 P1 R1
  try simp only [Act.put]
  go_wp2_with (fail)
  all_goals exact bodyPost_ret (results_b rfl _ rfl R2.out) rfl ⟨rfl, B2.out⟩
set_option maxHeartbeats 2000000 in
theorem write_220 (m : M) (x : Int) (g0 : 0 ≤ x) (g1 : x < 256) (hd : ¬ 128 ≤ x) (m9 : M) (H : ∀ W, Calls Tryd.prog 15 #[.agg (enc m), .bool false] W fun q_ w' => q_ = .returned (.agg (enc m9)) ∧ Below W.heap.size W w') (w : World) : Calls Tryd.prog 10 #[.agg (enc m), .int .i64 22, .int .u8 x] w fun q_ w' => q_ = .returned (.agg (enc m9)) ∧ Below w.heap.size w w' := by
  suffices hall : ∀ (n_ : Nat) (W0 : World), n_ ≤ W0.heap.size → Below n_ W0 w → Calls Tryd.prog 10 #[.agg (enc m), .int .i64 22, .int .u8 x] w fun q_ w' => q_ = .returned (.agg (enc m9)) ∧ Below n_ W0 w' from hall _ _ (Nat.le_refl _) (Below.refl _ _)
  intro n_ W0 hn hB
  have HN := Lib.hid hn
  have BB := Lib.hid hB
  clear hn hB
  have SH := Lib.hid H
  clear H
  have q1 : (bits .and .u8 x 128 != 0) = false := (b128 x g0 g1).trans (by simpa using hd)
  have hz29 : ∀ w : World, (zeroValue 29).run Tryd.prog w = .ok (.agg (enc zeroM)) w := zero29
  go_enter Tryd.func10, Tryd.ntmps10
  have Q_ := own2 w (.cells (enc m) 29) (.cells (enc zeroM) 29)
  have B0 := Lib.hid (vian HN.out BB.out Q_)
  have P0 := Lib.hid (show Has ((w.alloc (.cells (enc m) 29)).alloc (.cells (enc zeroM) 29)) w.heap.size (enc m) by simpa using (Has.new w (enc m) 29).alloc (.cells (enc zeroM) 29))
  have LP := Lib.hid (show n_ ≤ w.heap.size + 0 from Nat.le_add_right_of_le (Nat.le_trans HN.out BB.out.size))
  have R0 := Lib.hid (show Has ((w.alloc (.cells (enc m) 29)).alloc (.cells (enc zeroM) 29)) (w.heap.size + 1) (enc zeroM) by simpa using Has.new (w.alloc (.cells (enc m) 29)) (enc zeroM) 29)
  have LR := Lib.hid (show n_ ≤ (w.heap.size + 1) from Nat.le_add_right_of_le (Nat.le_trans HN.out BB.out.size))
  have NPR := Lib.hid (show w.heap.size + 0 ≠ w.heap.size + 1 by omega)
  simp only [Nat.add_zero] at LP NPR
  clear Q_
  go_upto_region 1 with (fail)
  generalize ((w.alloc (.cells (enc m) 29)).alloc (.cells (enc zeroM) 29)) = u0 at B0 P0 R0 ⊢
  generalize w.heap.size + 1 = rb at R0 LR NPR ⊢
  generalize w.heap.size = pb at P0 LP NPR ⊢
  go_wp2_with (first | (refine load_b P0.out rfl _ rfl rfl ?_; simp only [Act.put, List.setIfInBounds_toArray, List.set_cons_zero, List.set_cons_succ]))
  with_reducible refine (SH.out _).mono ?_
  rintro q_ u1 ⟨rfl, hb⟩
  have B1 := Lib.hid (vian HN.out B0.out hb)
  have P1 := Lib.hid (P0.out.below hb)
  have R1 := Lib.hid (R0.out.below hb)
  clear hb B0 P0 R0
  go_wp2_with (refine store_b R1.out (m9) rfl _ _ rfl rfl rfl ?_)
  intro u2 hP hk
  have R2 := Lib.hid hP
  have B2 := Lib.hid (hk.below HN.out LR.out B1.out)
  have P2 := Lib.hid (hk.has NPR.out P1.out)
  clear hk hP B1 P1 R1
  try simp only [Act.put]
  go_wp2_with (fail)
  all_goals exact bodyPost_ret (results_b rfl _ rfl R2.out) rfl ⟨rfl, B2.out⟩
set_option maxHeartbeats 2000000 in
theorem write_bad (m : M) (n x : Int) (g0 : 0 ≤ x) (g1 : x < 256) (h22 : ¬ n = 22) (HE : ∀ W, Calls Tryd.prog 16 #[.int .i64 n] W fun q_ w' => q_ = .returned (.bool false) ∧ w' = W)  (w : World) : Calls Tryd.prog 10 #[.agg (enc m), .int .i64 n, .int .u8 x] w fun q_ w' => q_ = .returned (.agg (enc m)) ∧ Below w.heap.size w w' := by
  suffices hall : ∀ (n_ : Nat) (W0 : World), n_ ≤ W0.heap.size → Below n_ W0 w → Calls Tryd.prog 10 #[.agg (enc m), .int .i64 n, .int .u8 x] w fun q_ w' => q_ = .returned (.agg (enc m)) ∧ Below n_ W0 w' from hall _ _ (Nat.le_refl _) (Below.refl _ _)
  intro n_ W0 hn hB
  have HN := Lib.hid hn
  have BB := Lib.hid hB
  clear hn hB
  have SE := Lib.hid HE
  clear HE
  have i22 : (n == 22) = false := by simpa using h22
  have hz29 : ∀ w : World, (zeroValue 29).run Tryd.prog w = .ok (.agg (enc zeroM)) w := zero29
  have hnot : ∀ (x : Bool) (w : World), (Op.unary .not (.bool x)).run Tryd.prog w = .ok (.bool (!x)) w := fun _ _ => rfl
  go_enter Tryd.func10, Tryd.ntmps10
  have Q_ := own2 w (.cells (enc m) 29) (.cells (enc zeroM) 29)
  have B0 := Lib.hid (vian HN.out BB.out Q_)
  have P0 := Lib.hid (show Has ((w.alloc (.cells (enc m) 29)).alloc (.cells (enc zeroM) 29)) w.heap.size (enc m) by simpa using (Has.new w (enc m) 29).alloc (.cells (enc zeroM) 29))
  have LP := Lib.hid (show n_ ≤ w.heap.size + 0 from Nat.le_add_right_of_le (Nat.le_trans HN.out BB.out.size))
  have R0 := Lib.hid (show Has ((w.alloc (.cells (enc m) 29)).alloc (.cells (enc zeroM) 29)) (w.heap.size + 1) (enc zeroM) by simpa using Has.new (w.alloc (.cells (enc m) 29)) (enc zeroM) 29)
  have LR := Lib.hid (show n_ ≤ (w.heap.size + 1) from Nat.le_add_right_of_le (Nat.le_trans HN.out BB.out.size))
  have NPR := Lib.hid (show w.heap.size + 0 ≠ w.heap.size + 1 by omega)
  simp only [Nat.add_zero] at LP NPR
  clear Q_
  go_upto_region 1 with (fail)
  generalize ((w.alloc (.cells (enc m) 29)).alloc (.cells (enc zeroM) 29)) = u0 at B0 P0 R0 ⊢
  generalize w.heap.size + 1 = rb at R0 LR NPR ⊢
  generalize w.heap.size = pb at P0 LP NPR ⊢
  go_wp2_with (fail)
  with_reducible refine (SE.out _).mono ?_
  rintro q_ w' ⟨rfl, rfl⟩
  go_wp2_with (first | (refine load_b P0.out rfl _ rfl rfl ?_; simp only [Act.put, List.setIfInBounds_toArray, List.set_cons_zero, List.set_cons_succ]) | (refine store_b R0.out (m) rfl _ _ rfl rfl rfl ?_))
  intro u1 hP hk
  have R1 := Lib.hid hP
  have B1 := Lib.hid (hk.below HN.out LR.out B0.out)
  have P1 := Lib.hid (hk.has NPR.out P0.out)
  clear hk hP B0 P0 R0
  try simp only [Act.put]
  go_wp2_with (fail)
  all_goals exact bodyPost_ret (results_b rfl _ rfl R1.out) rfl ⟨rfl, B1.out⟩
set_option maxHeartbeats 2000000 in
theorem write_low (m : M) (n x : Int) (g0 : 0 ≤ x) (g1 : x < 256) (h22 : ¬ n = 22) (h32 : n < 32) (h48 : ¬ m 48 = 1) (HE : ∀ W, Calls Tryd.prog 16 #[.int .i64 n] W fun q_ w' => q_ = .returned (.bool true) ∧ w' = W)  (w : World) : Calls Tryd.prog 10 #[.agg (enc m), .int .i64 n, .int .u8 x] w fun q_ w' => q_ = .returned (.agg (enc m)) ∧ Below w.heap.size w w' := by
  suffices hall : ∀ (n_ : Nat) (W0 : World), n_ ≤ W0.heap.size → Below n_ W0 w → Calls Tryd.prog 10 #[.agg (enc m), .int .i64 n, .int .u8 x] w fun q_ w' => q_ = .returned (.agg (enc m)) ∧ Below n_ W0 w' from hall _ _ (Nat.le_refl _) (Below.refl _ _)
  intro n_ W0 hn hB
  have HN := Lib.hid hn
  have BB := Lib.hid hB
  clear hn hB
  have SE := Lib.hid HE
  have H48 := Lib.hid h48
  clear HE h48
  have i22 : (n == 22) = false := by simpa using h22
  have hz29 : ∀ w : World, (zeroValue 29).run Tryd.prog w = .ok (.agg (enc zeroM)) w := zero29
  have hnot : ∀ (x : Bool) (w : World), (Op.unary .not (.bool x)).run Tryd.prog w = .ok (.bool (!x)) w := fun _ _ => rfl
  go_enter Tryd.func10, Tryd.ntmps10
  have Q_ := own2 w (.cells (enc m) 29) (.cells (enc zeroM) 29)
  have B0 := Lib.hid (vian HN.out BB.out Q_)
  have P0 := Lib.hid (show Has ((w.alloc (.cells (enc m) 29)).alloc (.cells (enc zeroM) 29)) w.heap.size (enc m) by simpa using (Has.new w (enc m) 29).alloc (.cells (enc zeroM) 29))
  have LP := Lib.hid (show n_ ≤ w.heap.size + 0 from Nat.le_add_right_of_le (Nat.le_trans HN.out BB.out.size))
  have R0 := Lib.hid (show Has ((w.alloc (.cells (enc m) 29)).alloc (.cells (enc zeroM) 29)) (w.heap.size + 1) (enc zeroM) by simpa using Has.new (w.alloc (.cells (enc m) 29)) (enc zeroM) 29)
  have LR := Lib.hid (show n_ ≤ (w.heap.size + 1) from Nat.le_add_right_of_le (Nat.le_trans HN.out BB.out.size))
  have NPR := Lib.hid (show w.heap.size + 0 ≠ w.heap.size + 1 by omega)
  simp only [Nat.add_zero] at LP NPR
  clear Q_
  go_upto_region 1 with (fail)
  generalize ((w.alloc (.cells (enc m) 29)).alloc (.cells (enc zeroM) 29)) = u0 at B0 P0 R0 ⊢
  generalize w.heap.size + 1 = rb at R0 LR NPR ⊢
  generalize w.heap.size = pb at P0 LP NPR ⊢
  go_wp2_with (fail)
  with_reducible refine (SE.out _).mono ?_
  rintro q_ w' ⟨rfl, rfl⟩
  obtain ⟨hc, hf⟩ := P0.out.out
  have e0 : (enc (m))[48]? = some (.bool false) := by rw [enc_b _ _ rfl (by omega)]; rw [decide_eq_false H48.out]
  go_wp2_with (first | (refine load_b P0.out rfl _ rfl rfl ?_; simp only [Act.put, List.setIfInBounds_toArray, List.set_cons_zero, List.set_cons_succ]) | (refine store_b R0.out (m) rfl _ _ rfl rfl rfl ?_))
  intro u1 hP hk
  have R1 := Lib.hid hP
  have B1 := Lib.hid (hk.below HN.out LR.out B0.out)
  have P1 := Lib.hid (hk.has NPR.out P0.out)
  clear hk hP B0 P0 R0
  try simp only [Act.put]
  go_wp2_with (fail)
  all_goals exact bodyPost_ret (results_b rfl _ rfl R1.out) rfl ⟨rfl, B1.out⟩
set_option maxHeartbeats 2000000 in
theorem write_1f (m : M) (n x : Int) (nn v j : Nat) (hn : n = nn) (hv : nn / 5 = v) (hj : nn % 5 = j) (h1 : nn < 48) (g0 : 0 ≤ x) (g1 : x < 256) (h22 : ¬ n = 22) (h48 : m 48 = 1) (HE : ∀ W, Calls Tryd.prog 16 #[.int .i64 n] W fun q_ w' => q_ = .returned (.bool true) ∧ w' = W) (h20 : v < 4) (m9 : M) (H : ∀ b W, Has W b (enc (upd m nn x)) → Calls Tryd.prog 17 #[.pointer (some ⟨b, 0, none⟩), .int .i64 (v : Int), .int .i64 (j : Int)] W fun q_ w' => q_ = .returned (.tuple #[]) ∧ Has w' b (enc m9) ∧ Keeps b W w') (w : World) : Calls Tryd.prog 10 #[.agg (enc m), .int .i64 n, .int .u8 x] w fun q_ w' => q_ = .returned (.agg (enc m9)) ∧ Below w.heap.size w w' := by
  suffices hall : ∀ (n_ : Nat) (W0 : World), n_ ≤ W0.heap.size → Below n_ W0 w → Calls Tryd.prog 10 #[.agg (enc m), .int .i64 n, .int .u8 x] w fun q_ w' => q_ = .returned (.agg (enc m9)) ∧ Below n_ W0 w' from hall _ _ (Nat.le_refl _) (Below.refl _ _)
  intro n_ W0 hn hB
  have HN := Lib.hid hn
  have BB := Lib.hid hB
  clear hn hB
  subst hn
  have SE := Lib.hid HE
  have H48 := Lib.hid h48
  clear HE h48
  have i22 : ((nn : Int) == 22) = false := by simpa using h22
  have i48 : (nn : Int) < 48 := by omega
  have d5 : (nn : Int) / 5 = v := by omega
  have r5 : (nn : Int) % 5 = j := by omega
  have t5 : (nn : Int).tdiv 5 = v := by rw [Int.tdiv_eq_ediv_of_nonneg (by omega)]; exact d5
  have s5 : (nn : Int).tmod 5 = j := by rw [Int.tmod_eq_emod_of_nonneg (by omega)]; exact r5
  have l4 : (v : Int) < 4 := by omega
  have f4 : decide ((v : Int) < 4) = true := by simpa using l4
  clear hv hj
  have SH := Lib.hid H
  clear H
  have hz29 : ∀ w : World, (zeroValue 29).run Tryd.prog w = .ok (.agg (enc zeroM)) w := zero29
  have hnot : ∀ (x : Bool) (w : World), (Op.unary .not (.bool x)).run Tryd.prog w = .ok (.bool (!x)) w := fun _ _ => rfl
  go_enter Tryd.func10, Tryd.ntmps10
  have Q_ := own2 w (.cells (enc m) 29) (.cells (enc zeroM) 29)
  have B0 := Lib.hid (vian HN.out BB.out Q_)
  have P0 := Lib.hid (show Has ((w.alloc (.cells (enc m) 29)).alloc (.cells (enc zeroM) 29)) w.heap.size (enc m) by simpa using (Has.new w (enc m) 29).alloc (.cells (enc zeroM) 29))
  have LP := Lib.hid (show n_ ≤ w.heap.size + 0 from Nat.le_add_right_of_le (Nat.le_trans HN.out BB.out.size))
  have R0 := Lib.hid (show Has ((w.alloc (.cells (enc m) 29)).alloc (.cells (enc zeroM) 29)) (w.heap.size + 1) (enc zeroM) by simpa using Has.new (w.alloc (.cells (enc m) 29)) (enc zeroM) 29)
  have LR := Lib.hid (show n_ ≤ (w.heap.size + 1) from Nat.le_add_right_of_le (Nat.le_trans HN.out BB.out.size))
  have NPR := Lib.hid (show w.heap.size + 0 ≠ w.heap.size + 1 by omega)
  simp only [Nat.add_zero] at LP NPR
  clear Q_
  go_upto_region 1 with (fail)
  generalize ((w.alloc (.cells (enc m) 29)).alloc (.cells (enc zeroM) 29)) = u0 at B0 P0 R0 ⊢
  generalize w.heap.size + 1 = rb at R0 LR NPR ⊢
  generalize w.heap.size = pb at P0 LP NPR ⊢
  go_wp2_with (fail)
  with_reducible refine (SE.out _).mono ?_
  rintro q_ w' ⟨rfl, rfl⟩
  obtain ⟨hc, hf⟩ := P0.out.out
  have e0 : (enc (m))[48]? = some (.bool true) := by rw [enc_b _ _ rfl (by omega)]; rw [decide_eq_true H48.out]
  go_wp2_with (refine store_u P0.out rfl _ _ rfl _ rfl _ rfl (by omega) ?_)
  intro u1 hP hk
  replace hP : Has u1 pb (enc (upd m nn x)) := hP
  have P1 := Lib.hid hP
  have B1 := Lib.hid (hk.below HN.out LP.out B0.out)
  have R1 := Lib.hid (hk.has (Ne.symm NPR.out) R0.out)
  clear hk hP B0 P0 R0
  try simp only [Act.put]
  clear hc hf e0
  go_wp2_with (fail)
  with_reducible refine (SH.out _ _ P1.out).mono ?_
  rintro q_ u2 ⟨rfl, hP, hk⟩
  have P2 := Lib.hid hP
  have B2 := Lib.hid (hk.below HN.out LP.out B1.out)
  have R2 := Lib.hid (hk.has (Ne.symm NPR.out) R1.out)
  clear hk hP B1 P1 R1
  go_wp2_with (first | (refine load_b P2.out rfl _ rfl rfl ?_; simp only [Act.put, List.setIfInBounds_toArray, List.set_cons_zero, List.set_cons_succ]) | (refine store_b R2.out (m9) rfl _ _ rfl rfl rfl ?_))
  intro u3 hP hk
  have R3 := Lib.hid hP
  have B3 := Lib.hid (hk.below HN.out LR.out B2.out)
  have P3 := Lib.hid (hk.has NPR.out P2.out)
  clear hk hP B2 P2 R2
  try simp only [Act.put]
  go_wp2_with (fail)
  all_goals exact bodyPost_ret (results_b rfl _ rfl R3.out) rfl ⟨rfl, B3.out⟩
set_option maxHeartbeats 2000000 in
theorem write_1n (m : M) (n x : Int) (nn v j : Nat) (hn : n = nn) (hv : nn / 5 = v) (hj : nn % 5 = j) (h1 : nn < 48) (g0 : 0 ≤ x) (g1 : x < 256) (h22 : ¬ n = 22) (h48 : m 48 = 1) (HE : ∀ W, Calls Tryd.prog 16 #[.int .i64 n] W fun q_ w' => q_ = .returned (.bool true) ∧ w' = W) (h20 : ¬ v < 4) (w : World) : Calls Tryd.prog 10 #[.agg (enc m), .int .i64 n, .int .u8 x] w fun q_ w' => q_ = .returned (.agg (enc (upd m nn x))) ∧ Below w.heap.size w w' := by
  suffices hall : ∀ (n_ : Nat) (W0 : World), n_ ≤ W0.heap.size → Below n_ W0 w → Calls Tryd.prog 10 #[.agg (enc m), .int .i64 n, .int .u8 x] w fun q_ w' => q_ = .returned (.agg (enc (upd m nn x))) ∧ Below n_ W0 w' from hall _ _ (Nat.le_refl _) (Below.refl _ _)
  intro n_ W0 hn hB
  have HN := Lib.hid hn
  have BB := Lib.hid hB
  clear hn hB
  subst hn
  have SE := Lib.hid HE
  have H48 := Lib.hid h48
  clear HE h48
  have i22 : ((nn : Int) == 22) = false := by simpa using h22
  have i48 : (nn : Int) < 48 := by omega
  have d5 : (nn : Int) / 5 = v := by omega
  have r5 : (nn : Int) % 5 = j := by omega
  have t5 : (nn : Int).tdiv 5 = v := by rw [Int.tdiv_eq_ediv_of_nonneg (by omega)]; exact d5
  have s5 : (nn : Int).tmod 5 = j := by rw [Int.tmod_eq_emod_of_nonneg (by omega)]; exact r5
  have l4 : ¬ (v : Int) < 4 := by omega
  have f4 : decide ((v : Int) < 4) = false := by simpa using l4
  clear hv hj
  have hz29 : ∀ w : World, (zeroValue 29).run Tryd.prog w = .ok (.agg (enc zeroM)) w := zero29
  have hnot : ∀ (x : Bool) (w : World), (Op.unary .not (.bool x)).run Tryd.prog w = .ok (.bool (!x)) w := fun _ _ => rfl
  go_enter Tryd.func10, Tryd.ntmps10
  have Q_ := own2 w (.cells (enc m) 29) (.cells (enc zeroM) 29)
  have B0 := Lib.hid (vian HN.out BB.out Q_)
  have P0 := Lib.hid (show Has ((w.alloc (.cells (enc m) 29)).alloc (.cells (enc zeroM) 29)) w.heap.size (enc m) by simpa using (Has.new w (enc m) 29).alloc (.cells (enc zeroM) 29))
  have LP := Lib.hid (show n_ ≤ w.heap.size + 0 from Nat.le_add_right_of_le (Nat.le_trans HN.out BB.out.size))
  have R0 := Lib.hid (show Has ((w.alloc (.cells (enc m) 29)).alloc (.cells (enc zeroM) 29)) (w.heap.size + 1) (enc zeroM) by simpa using Has.new (w.alloc (.cells (enc m) 29)) (enc zeroM) 29)
  have LR := Lib.hid (show n_ ≤ (w.heap.size + 1) from Nat.le_add_right_of_le (Nat.le_trans HN.out BB.out.size))
  have NPR := Lib.hid (show w.heap.size + 0 ≠ w.heap.size + 1 by omega)
  simp only [Nat.add_zero] at LP NPR
  clear Q_
  go_upto_region 1 with (fail)
  generalize ((w.alloc (.cells (enc m) 29)).alloc (.cells (enc zeroM) 29)) = u0 at B0 P0 R0 ⊢
  generalize w.heap.size + 1 = rb at R0 LR NPR ⊢
  generalize w.heap.size = pb at P0 LP NPR ⊢
  go_wp2_with (fail)
  with_reducible refine (SE.out _).mono ?_
  rintro q_ w' ⟨rfl, rfl⟩
  obtain ⟨hc, hf⟩ := P0.out.out
  have e0 : (enc (m))[48]? = some (.bool true) := by rw [enc_b _ _ rfl (by omega)]; rw [decide_eq_true H48.out]
  go_wp2_with (refine store_u P0.out rfl _ _ rfl _ rfl _ rfl (by omega) ?_)
  intro u1 hP hk
  replace hP : Has u1 pb (enc (upd m nn x)) := hP
  have P1 := Lib.hid hP
  have B1 := Lib.hid (hk.below HN.out LP.out B0.out)
  have R1 := Lib.hid (hk.has (Ne.symm NPR.out) R0.out)
  clear hk hP B0 P0 R0
  try simp only [Act.put]
  clear hc hf e0
  go_wp2_with (first | (refine load_b P1.out rfl _ rfl rfl ?_; simp only [Act.put, List.setIfInBounds_toArray, List.set_cons_zero, List.set_cons_succ]) | (refine store_b R1.out (upd m nn x) rfl _ _ rfl rfl rfl ?_))
  intro u2 hP hk
  have R2 := Lib.hid hP
  have B2 := Lib.hid (hk.below HN.out LR.out B1.out)
  have P2 := Lib.hid (hk.has NPR.out P1.out)
  clear hk hP B1 P1 R1
  try simp only [Act.put]
  go_wp2_with (fail)
  all_goals exact bodyPost_ret (results_b rfl _ rfl R2.out) rfl ⟨rfl, B2.out⟩
set_option maxHeartbeats 2000000 in
theorem write_0n (m : M) (n x : Int) (nn v j : Nat) (hn : n = nn) (hv : nn / 5 = v) (hj : nn % 5 = j) (h1 : nn < 48) (g0 : 0 ≤ x) (g1 : x < 256) (h22 : ¬ n = 22) (h48 : ¬ m 48 = 1) (h32 : ¬ n < 32) (HE : ∀ W, Calls Tryd.prog 16 #[.int .i64 n] W fun q_ w' => q_ = .returned (.bool true) ∧ w' = W) (h20 : ¬ v < 4) (w : World) : Calls Tryd.prog 10 #[.agg (enc m), .int .i64 n, .int .u8 x] w fun q_ w' => q_ = .returned (.agg (enc (upd m nn x))) ∧ Below w.heap.size w w' := by
  suffices hall : ∀ (n_ : Nat) (W0 : World), n_ ≤ W0.heap.size → Below n_ W0 w → Calls Tryd.prog 10 #[.agg (enc m), .int .i64 n, .int .u8 x] w fun q_ w' => q_ = .returned (.agg (enc (upd m nn x))) ∧ Below n_ W0 w' from hall _ _ (Nat.le_refl _) (Below.refl _ _)
  intro n_ W0 hn hB
  have HN := Lib.hid hn
  have BB := Lib.hid hB
  clear hn hB
  subst hn
  have SE := Lib.hid HE
  have H48 := Lib.hid h48
  clear HE h48
  have i22 : ((nn : Int) == 22) = false := by simpa using h22
  have i48 : (nn : Int) < 48 := by omega
  have d5 : (nn : Int) / 5 = v := by omega
  have r5 : (nn : Int) % 5 = j := by omega
  have t5 : (nn : Int).tdiv 5 = v := by rw [Int.tdiv_eq_ediv_of_nonneg (by omega)]; exact d5
  have s5 : (nn : Int).tmod 5 = j := by rw [Int.tmod_eq_emod_of_nonneg (by omega)]; exact r5
  have l4 : ¬ (v : Int) < 4 := by omega
  have f4 : decide ((v : Int) < 4) = false := by simpa using l4
  clear hv hj
  have hz29 : ∀ w : World, (zeroValue 29).run Tryd.prog w = .ok (.agg (enc zeroM)) w := zero29
  have hnot : ∀ (x : Bool) (w : World), (Op.unary .not (.bool x)).run Tryd.prog w = .ok (.bool (!x)) w := fun _ _ => rfl
  go_enter Tryd.func10, Tryd.ntmps10
  have Q_ := own2 w (.cells (enc m) 29) (.cells (enc zeroM) 29)
  have B0 := Lib.hid (vian HN.out BB.out Q_)
  have P0 := Lib.hid (show Has ((w.alloc (.cells (enc m) 29)).alloc (.cells (enc zeroM) 29)) w.heap.size (enc m) by simpa using (Has.new w (enc m) 29).alloc (.cells (enc zeroM) 29))
  have LP := Lib.hid (show n_ ≤ w.heap.size + 0 from Nat.le_add_right_of_le (Nat.le_trans HN.out BB.out.size))
  have R0 := Lib.hid (show Has ((w.alloc (.cells (enc m) 29)).alloc (.cells (enc zeroM) 29)) (w.heap.size + 1) (enc zeroM) by simpa using Has.new (w.alloc (.cells (enc m) 29)) (enc zeroM) 29)
  have LR := Lib.hid (show n_ ≤ (w.heap.size + 1) from Nat.le_add_right_of_le (Nat.le_trans HN.out BB.out.size))
  have NPR := Lib.hid (show w.heap.size + 0 ≠ w.heap.size + 1 by omega)
  simp only [Nat.add_zero] at LP NPR
  clear Q_
  go_upto_region 1 with (fail)
  generalize ((w.alloc (.cells (enc m) 29)).alloc (.cells (enc zeroM) 29)) = u0 at B0 P0 R0 ⊢
  generalize w.heap.size + 1 = rb at R0 LR NPR ⊢
  generalize w.heap.size = pb at P0 LP NPR ⊢
  go_wp2_with (fail)
  with_reducible refine (SE.out _).mono ?_
  rintro q_ w' ⟨rfl, rfl⟩
  obtain ⟨hc, hf⟩ := P0.out.out
  have e0 : (enc (m))[48]? = some (.bool false) := by rw [enc_b _ _ rfl (by omega)]; rw [decide_eq_false H48.out]
  go_wp2_with (refine store_u P0.out rfl _ _ rfl _ rfl _ rfl (by omega) ?_)
  intro u1 hP hk
  replace hP : Has u1 pb (enc (upd m nn x)) := hP
  have P1 := Lib.hid hP
  have B1 := Lib.hid (hk.below HN.out LP.out B0.out)
  have R1 := Lib.hid (hk.has (Ne.symm NPR.out) R0.out)
  clear hk hP B0 P0 R0
  try simp only [Act.put]
  clear hc hf e0
  go_wp2_with (first | (refine load_b P1.out rfl _ rfl rfl ?_; simp only [Act.put, List.setIfInBounds_toArray, List.set_cons_zero, List.set_cons_succ]) | (refine store_b R1.out (upd m nn x) rfl _ _ rfl rfl rfl ?_))
  intro u2 hP hk
  have R2 := Lib.hid hP
  have B2 := Lib.hid (hk.below HN.out LR.out B1.out)
  have P2 := Lib.hid (hk.has NPR.out P1.out)
  clear hk hP B1 P1 R1
  try simp only [Act.put]
  go_wp2_with (fail)
  all_goals exact bodyPost_ret (results_b rfl _ rfl R2.out) rfl ⟨rfl, B2.out⟩
theorem write_c (m : M) (h : okM m) (n x : Int) (g0 : 0 ≤ x) (g1 : x < 256) (w : World) : Calls Tryd.prog 10 #[.agg (enc m), .int .i64 n, .int .u8 x] w fun q_ w' => q_ = .returned (.agg (enc (writeV m n x))) ∧ Below w.heap.size w w' := by
  have he := exists_c n
  unfold writeV
  by_cases g : n = 22
  · subst g
    rw [if_pos rfl]
    by_cases g2 : 128 ≤ x
    · rw [if_pos g2]; exact write_221 m x g0 g1 g2 _ (fun W => switched_c m true W) w
    · rw [if_neg g2]; exact write_220 m x g0 g1 g2 _ (fun W => switched_c m false W) w
  · rw [if_neg g]
    by_cases g2 : n < 0 ∨ 48 ≤ n
    · rw [if_pos (by rcases g2 with k | k; exact Or.inl k; exact Or.inr (Or.inl k))]
      rw [decide_eq_false (fun k => k g2)] at he
      exact write_bad m n x g0 g1 g he w
    · rw [decide_eq_true g2] at he
      by_cases g3 : ¬ m 48 = 1 ∧ n < 32
      · rw [if_pos (Or.inr (Or.inr g3))]; exact write_low m n x g0 g1 g g3.2 g3.1 he w
      · rw [if_neg (by intro k; rcases k with k | k | k; exact g2 (Or.inl k); exact g2 (Or.inr k); exact g3 k)]
        unfold putV
        have k := ok_updr h n.toNat x (by omega) g0 g1
        by_cases g4 : n.toNat / 5 < 4
        · rw [if_pos g4]
          have g5 : m 48 = 1 := by by_cases q : m 48 = 1; exact q; exact absurd ⟨q, by omega⟩ g3
          exact write_1f m n x n.toNat _ _ (by omega) rfl rfl (by omega) g0 g1 g g5 he g4 _ (fun b W hW => follow_c b _ k _ _ _ _ rfl rfl g4 (by omega) W hW) w
        · rw [if_neg g4]
          by_cases q : m 48 = 1
          · exact write_1n m n x n.toNat _ _ (by omega) rfl rfl (by omega) g0 g1 g q he g4 w
          · exact write_0n m n x n.toNat _ _ (by omega) rfl rfl (by omega) g0 g1 g q (fun k => g3 ⟨q, k⟩) he g4 w
end Go.Proofs.YtonmnpadmphbdaaDoor
