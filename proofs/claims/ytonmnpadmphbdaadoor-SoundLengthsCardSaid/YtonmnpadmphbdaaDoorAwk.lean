/-
  What a law asks first: that the program is awake; how many cycles a call takes: no condition but that the table lies as it is laid.
-/
import Derived.Test.YtonmnpadmphbdaaDoorRw
import Derived.Deep.Cut
import Derived.BigQuiet
import Derived.WalkSmall
namespace Go.Proofs.YtonmnpadmphbdaaDoor
open Go.ChangeShapes Go.WideShapes Go.ChangeAt Go.RowKit
set_option linter.unusedVariables false
set_option linter.unusedSimpArgs false
set_option maxRecDepth 100000
/-- A whole board is loaded, at an operation with a guard that lets it. -/
theorem load_bg {ops : Array Oper} {rest : List Oper} {op : Oper} {a : Act} {w : World} {Q : Exit → Act → World → Prop} {b : Nat} {m : M} (h : Has w b (enc m))
    (hw : Region.wanted op (yielded ops a.tmps) = true) (x : Operand) (ho : op.op = .load 29 x) (hx : a.eval x = .pointer (some ⟨b, 0, none⟩))
    (hK : wpList Tryd.prog ops Q rest (a.put op.dst (.agg (enc m))) w) : wpList Tryd.prog ops Q (op :: rest) a w := by
  obtain ⟨fs, hu⟩ := under29
  refine wpList_step fun K hKK => ?_
  rw [if_pos hw]
  exact wp_load_mid 29 x ho b 0 hx (enc m).toList (.struct fs) (range_of_has h) hu rfl (by rw [info29]; simp [enc_size]) (by simpa using hKK _ _ hK)
def awM : M := writeV (writeV (writeV zeroM 22 128) 2 240) 4 128
theorem aw22 : readV awM 22 = 241 := by decide +kernel
theorem aw1 : readV awM 1 = 63 := by decide +kernel
theorem awt : tickV awM 49 = 1 := by decide +kernel
theorem field_div (m : M) (w : World) : (Instr.field 29 (.agg (enc m)) 2).run Tryd.prog w = .ok (.int .i64 (m 49)) w := by
  have e49 := enc_i m 49 rfl (by omega) (by omega)
  have ea : (asAgg (.agg (enc m))).run Tryd.prog w = .ok (enc m) w := rfl
  simp [Instr.field, part, go_sem, ea, Result.andThen, e49]
set_option maxHeartbeats 2000000 in
theorem awake_c  (w : World) (hg : Glob w) : Calls Tryd.prog 8 #[] w fun q_ w' => q_ = .returned (.bool true) ∧ Below w.heap.size w w' := by
  suffices hall : ∀ (n_ : Nat) (W0 : World), n_ ≤ W0.heap.size → Below n_ W0 w → Glob W0 → 0 < n_ → Calls Tryd.prog 8 #[] w fun q_ w' => q_ = .returned (.bool true) ∧ Below n_ W0 w' from hall _ _ (Nat.le_refl _) (Below.refl _ _) hg hg.1
  clear hg
  intro n_ W0 hn hB hG hn0
  have HN := Lib.hid hn
  have BB := Lib.hid hB
  have HG := Lib.hid hG
  have N0 := Lib.hid hn0
  clear hn hB hG hn0
  have hz29 : ∀ w : World, (zeroValue 29).run Tryd.prog w = .ok (.agg (enc zeroM)) w := zero29
  obtain ⟨m1, hm1⟩ : ∃ q_, writeV zeroM 22 128 = q_ := ⟨_, rfl⟩
  obtain ⟨m2, hm2⟩ : ∃ q_, writeV m1 2 240 = q_ := ⟨_, rfl⟩
  obtain ⟨m3, hm3⟩ : ∃ q_, writeV m2 4 128 = q_ := ⟨_, rfl⟩
  obtain ⟨m4, hm4⟩ : ∃ q_, tickV m3 = q_ := ⟨_, rfl⟩
  have k1 : okM m1 := hm1 ▸ ok_write ok_zero 22 128 (by decide) (by decide)
  have k2 : okM m2 := hm2 ▸ ok_write k1 2 240 (by decide) (by decide)
  have k3 : okM m3 := hm3 ▸ ok_write k2 4 128 (by decide) (by decide)
  have e3 : m3 = awM := by rw [← hm3, ← hm2, ← hm1]; rfl
  have r22 : readV m3 22 = 241 := by rw [e3]; exact aw22
  have r1 : readV m3 1 = 63 := by rw [e3]; exact aw1
  have t4 : m4 49 = 1 := by rw [← hm4, e3]; exact awt
  have C1 := Lib.hid (fun W => write_c zeroM ok_zero 22 128 (by decide) (by decide) W)
  have C2 := Lib.hid (fun W => write_c m1 k1 2 240 (by decide) (by decide) W)
  have C3 := Lib.hid (fun W => write_c m2 k2 4 128 (by decide) (by decide) W)
  have C4 := Lib.hid (fun W => tick_c m3 k3 W)
  have C5 := Lib.hid (fun W (hW : Glob W) => read_c m3 22 W hW)
  have C6 := Lib.hid (fun W (hW : Glob W) => read_c m3 1 W hW)
  rw [hm1] at C1
  rw [hm2] at C2
  rw [hm3] at C3
  rw [hm4] at C4
  rw [r22] at C5
  rw [r1] at C6
  have e49 := fun w => field_div m4 w
  simp only [t4] at e49
  clear hm1 hm2 hm3 hm4 k1 k2 k3 e3 r22 r1 t4
  go_enter Tryd.func8, Tryd.ntmps8
  go_wp2_with (fail)
  with_reducible refine (C1.out _).mono ?_
  rintro q_ u1 ⟨rfl, hb⟩
  have B1 := Lib.hid (vian HN.out BB.out hb)
  clear hb 
  go_wp2_with (fail)
  with_reducible refine (C2.out _).mono ?_
  rintro q_ u2 ⟨rfl, hb⟩
  have B2 := Lib.hid (vian HN.out B1.out hb)
  clear hb B1
  go_wp2_with (fail)
  with_reducible refine (C3.out _).mono ?_
  rintro q_ u3 ⟨rfl, hb⟩
  have B3 := Lib.hid (vian HN.out B2.out hb)
  clear hb B2
  go_wp2_with (refine store_b (Has.new u3 (enc zeroM) 29) (m3) rfl _ _ rfl rfl rfl ?_)
  intro u4 hP hk
  have Q_ := own1 u3 (.cells (enc zeroM) 29)
  have LP := Lib.hid (show n_ ≤ u3.heap.size from Nat.le_trans HN.out B3.out.size)
  have B4 := Lib.hid (hk.below HN.out LP.out (vian HN.out B3.out Q_))
  have P4 := Lib.hid hP
  generalize u3.heap.size = pb at LP  P4 ⊢
  clear hk hP Q_ B3
  try simp only [Act.put, List.setIfInBounds_toArray, List.set_cons_zero, List.set_cons_succ]
  go_wp2_with (first | ((first | (refine load_b P4.out rfl _ rfl rfl ?_) | (refine load_bg P4.out rfl _ rfl rfl ?_)); simp only [Act.put, List.setIfInBounds_toArray, List.set_cons_zero, List.set_cons_succ]))
  with_reducible refine (C5.out _ (HG.out.below N0.out B4.out)).mono ?_
  rintro q_ u5 ⟨rfl, hb⟩
  have B5 := Lib.hid (vian HN.out B4.out hb)
  have P5 := Lib.hid (P4.out.below hb)
  clear hb B4 P4
  go_wp2_with (first | ((first | (refine load_b P5.out rfl _ rfl rfl ?_) | (refine load_bg P5.out rfl _ rfl rfl ?_)); simp only [Act.put, List.setIfInBounds_toArray, List.set_cons_zero, List.set_cons_succ]))
  with_reducible refine (C4.out _).mono ?_
  rintro q_ u6 ⟨rfl, hb⟩
  have B6 := Lib.hid (vian HN.out B5.out hb)
  have P6 := Lib.hid (P5.out.below hb)
  clear hb B5 P5
  go_wp2_with (first | ((first | (refine load_b P6.out rfl _ rfl rfl ?_) | (refine load_bg P6.out rfl _ rfl rfl ?_)); simp only [Act.put, List.setIfInBounds_toArray, List.set_cons_zero, List.set_cons_succ]))
  with_reducible refine (C6.out _ (HG.out.below N0.out B6.out)).mono ?_
  rintro q_ u7 ⟨rfl, hb⟩
  have B7 := Lib.hid (vian HN.out B6.out hb)
  have P7 := Lib.hid (P6.out.below hb)
  clear hb B6 P6
  go_wp2_with (fail)
  all_goals exact bodyPost_ret (v := .bool true) (by simp [results, Tryd.results8, go_sem]) rfl ⟨rfl, B7.out⟩
def tickN (k n : Int) : Nat := if k = 1 then (if 0 < n then (if n ≤ 12 then n.toNat * 2048 else 24576) else 0) else if k = 3 then (if 0 < n then (if n ≤ 300 then n.toNat else 300) else 0) else 0
set_option maxHeartbeats 1000000 in
theorem ticks_1a (k n x : Int) (h1 : k = 1) (h2 : ¬ 0 < n) (w : World) : Calls Tryd.prog 14 #[.agg #[.int .i64 k, .int .i64 n, .int .u8 x]] w fun q_ w' => q_ = .returned (.int .i64 (0)) ∧ Below w.heap.size w w' := by
  subst h1
  have j2 : n ≤ 12 := by omega
  have j3 : n ≤ 0 := by omega
  go_enter Tryd.func14, Tryd.ntmps14
  go_wp2
  all_goals exact bodyPost_ret (v := .int .i64 (0)) (by simp [results, Tryd.results14, go_sem]) rfl ⟨rfl, own1 _ _⟩
set_option maxHeartbeats 1000000 in
theorem ticks_1b (k n x : Int) (h1 : k = 1) (h2 : 0 < n) (h3 : n ≤ 12) (w : World) : Calls Tryd.prog 14 #[.agg #[.int .i64 k, .int .i64 n, .int .u8 x]] w fun q_ w' => q_ = .returned (.int .i64 (n * 2048)) ∧ Below w.heap.size w w' := by
  subst h1
  have j1 : (2048 * n : Int) = n * 2048 := by omega
  go_enter Tryd.func14, Tryd.ntmps14
  go_wp2
  all_goals exact bodyPost_ret (v := .int .i64 (n * 2048)) (by simp [results, Tryd.results14, go_sem]) rfl ⟨rfl, own1 _ _⟩
set_option maxHeartbeats 1000000 in
theorem ticks_1c (k n x : Int) (h1 : k = 1) (h2 : 0 < n) (h3 : ¬ n ≤ 12) (w : World) : Calls Tryd.prog 14 #[.agg #[.int .i64 k, .int .i64 n, .int .u8 x]] w fun q_ w' => q_ = .returned (.int .i64 (24576)) ∧ Below w.heap.size w w' := by
  subst h1
  go_enter Tryd.func14, Tryd.ntmps14
  go_wp2
  all_goals exact bodyPost_ret (v := .int .i64 (24576)) (by simp [results, Tryd.results14, go_sem]) rfl ⟨rfl, own1 _ _⟩
set_option maxHeartbeats 1000000 in
theorem ticks_3a (k n x : Int) (h1 : k = 3) (h2 : ¬ 0 < n) (w : World) : Calls Tryd.prog 14 #[.agg #[.int .i64 k, .int .i64 n, .int .u8 x]] w fun q_ w' => q_ = .returned (.int .i64 (0)) ∧ Below w.heap.size w w' := by
  subst h1
  have j2 : n ≤ 300 := by omega
  have j3 : n ≤ 0 := by omega
  go_enter Tryd.func14, Tryd.ntmps14
  go_wp2
  all_goals exact bodyPost_ret (v := .int .i64 (0)) (by simp [results, Tryd.results14, go_sem]) rfl ⟨rfl, own1 _ _⟩
set_option maxHeartbeats 1000000 in
theorem ticks_3b (k n x : Int) (h1 : k = 3) (h2 : 0 < n) (h3 : n ≤ 300) (w : World) : Calls Tryd.prog 14 #[.agg #[.int .i64 k, .int .i64 n, .int .u8 x]] w fun q_ w' => q_ = .returned (.int .i64 (n)) ∧ Below w.heap.size w w' := by
  subst h1
  go_enter Tryd.func14, Tryd.ntmps14
  go_wp2
  all_goals exact bodyPost_ret (v := .int .i64 (n)) (by simp [results, Tryd.results14, go_sem]) rfl ⟨rfl, own1 _ _⟩
set_option maxHeartbeats 1000000 in
theorem ticks_3c (k n x : Int) (h1 : k = 3) (h2 : 0 < n) (h3 : ¬ n ≤ 300) (w : World) : Calls Tryd.prog 14 #[.agg #[.int .i64 k, .int .i64 n, .int .u8 x]] w fun q_ w' => q_ = .returned (.int .i64 (300)) ∧ Below w.heap.size w w' := by
  subst h1
  go_enter Tryd.func14, Tryd.ntmps14
  go_wp2
  all_goals exact bodyPost_ret (v := .int .i64 (300)) (by simp [results, Tryd.results14, go_sem]) rfl ⟨rfl, own1 _ _⟩
set_option maxHeartbeats 1000000 in
theorem ticks_n (k n x : Int) (h1 : ¬ k = 1) (h2 : ¬ k = 3) (w : World) : Calls Tryd.prog 14 #[.agg #[.int .i64 k, .int .i64 n, .int .u8 x]] w fun q_ w' => q_ = .returned (.int .i64 (0)) ∧ Below w.heap.size w w' := by
  have i1 : (k == 1) = false := by simpa using h1
  have i3 : (k == 3) = false := by simpa using h2
  go_enter Tryd.func14, Tryd.ntmps14
  go_wp2
  all_goals exact bodyPost_ret (v := .int .i64 (0)) (by simp [results, Tryd.results14, go_sem]) rfl ⟨rfl, own1 _ _⟩
theorem ticks_c (k n x : Int) (w : World) : Calls Tryd.prog 14 #[.agg #[.int .i64 k, .int .i64 n, .int .u8 x]] w fun q_ w' => q_ = .returned (.int .i64 (tickN k n)) ∧ Below w.heap.size w w' := by
  unfold tickN
  by_cases h1 : k = 1
  · rw [if_pos h1]
    by_cases h2 : 0 < n
    · rw [if_pos h2]
      by_cases h3 : n ≤ 12
      · rw [if_pos h3, show ((n.toNat * 2048 : Nat) : Int) = n * 2048 by omega]; exact ticks_1b k n x h1 h2 h3 w
      · rw [if_neg h3]; exact ticks_1c k n x h1 h2 h3 w
    · rw [if_neg h2]; exact ticks_1a k n x h1 h2 w
  · rw [if_neg h1]
    by_cases h4 : k = 3
    · rw [if_pos h4]
      by_cases h2 : 0 < n
      · rw [if_pos h2]
        by_cases h3 : n ≤ 300
        · rw [if_pos h3, show ((n.toNat : Nat) : Int) = n by omega]; exact ticks_3b k n x h4 h2 h3 w
        · rw [if_neg h3]; exact ticks_3c k n x h4 h2 h3 w
      · rw [if_neg h2]; exact ticks_3a k n x h4 h2 w
    · rw [if_neg h4]; exact ticks_n k n x h1 h4 w
end Go.Proofs.YtonmnpadmphbdaaDoor
