/-
  A board behind one call more: for every board in its ranges; no condition but that each number fits.
-/
import Derived.Test.YtonmnpadmphbdaaDoorAwk
import Derived.Deep.Cut
import Derived.BigQuiet
import Derived.WalkSmall
import Derived.Deep.LoopGhost
namespace Go.Proofs.YtonmnpadmphbdaaDoor
open Go.ChangeShapes Go.WideShapes Go.ChangeAt Go.RowKit
set_option linter.unusedVariables false
set_option linter.unusedSimpArgs false
set_option maxRecDepth 100000
def itN (m : M) : Nat → M
  | 0 => m
  | t + 1 => tickV (itN m t)
theorem ok_it {m : M} (h : okM m) : ∀ t, okM (itN m t)
  | 0 => h
  | t + 1 => ok_tick (ok_it h t)
theorem itN_add (m : M) (a : Nat) : ∀ c, itN m (a + c) = itN (itN m a) c
  | 0 => rfl
  | c + 1 => congrArg tickV (itN_add m a c)
def thenV (m : M) (k n x : Int) : M := if k = 2 then writeV (itN m (tickN k n)) n x else itN m (tickN k n)
theorem ok_then {m : M} (h : okM m) (k n x : Int) (h0 : 0 ≤ x) (h1 : x < 256) : okM (thenV m k n x) := by
  unfold thenV
  split
  · exact ok_write (ok_it h _) n x h0 h1
  · exact ok_it h _
set_option maxHeartbeats 4000000 in
theorem then_1 (m m9 : M) (k n x : Int) (N : Nat) (h : okM m) (hN : tickN k n = N) (hN2 : N < 100000) (h2 : k = 2) (h9 : m9 = writeV (itN m N) n x) (g0 : 0 ≤ x) (g1 : x < 256) (w : World) : Calls Tryd.prog 9 #[.agg (enc m), .agg #[.int .i64 k, .int .i64 n, .int .u8 x]] w fun q_ w' => q_ = .returned (.agg (enc m9)) ∧ Below w.heap.size w w' := by
  suffices hall : ∀ (n_ : Nat) (W0 : World), n_ ≤ W0.heap.size → Below n_ W0 w → Calls Tryd.prog 9 #[.agg (enc m), .agg #[.int .i64 k, .int .i64 n, .int .u8 x]] w fun q_ w' => q_ = .returned (.agg (enc m9)) ∧ Below n_ W0 w' from hall _ _ (Nat.le_refl _) (Below.refl _ _)
  intro n_ W0 hn hB
  have HN := Lib.hid hn
  have BB := Lib.hid hB
  clear hn hB
  have ST := Lib.hid (fun W => ticks_c k n x W)
  rw [hN] at ST
  have OK := Lib.hid (fun t => ok_it h t)
  have E9 := Lib.hid h9
  have SW := Lib.hid (fun W => write_c (itN m N) (ok_it h N) n x g0 g1 W)
  rw [← h9] at SW
  subst h2
  clear hN h h9
  have hz29 : ∀ w : World, (zeroValue 29).run Tryd.prog w = .ok (.agg (enc zeroM)) w := zero29
  have hnot : ∀ (x : Bool) (w : World), (Op.unary .not (.bool x)).run Tryd.prog w = .ok (.bool (!x)) w := fun _ _ => rfl
  go_enter Tryd.func9, Tryd.ntmps9
  have Q_ := own3 w (.cells (enc m) 29) (.cells #[.int .i64 2, .int .i64 n, .int .u8 x] 32) (.cells (enc zeroM) 29)
  have B0 := Lib.hid (vian HN.out BB.out Q_)
  have P0 := Lib.hid (show Has (((w.alloc (.cells (enc m) 29)).alloc (.cells #[.int .i64 2, .int .i64 n, .int .u8 x] 32)).alloc (.cells (enc zeroM) 29)) w.heap.size (enc m) by simpa using ((Has.new w (enc m) 29).alloc (.cells #[.int .i64 2, .int .i64 n, .int .u8 x] 32)).alloc (.cells (enc zeroM) 29))
  have LP := Lib.hid (show n_ ≤ w.heap.size + 0 from Nat.le_add_right_of_le (Nat.le_trans HN.out BB.out.size))
  have O0 := Lib.hid (show Has (((w.alloc (.cells (enc m) 29)).alloc (.cells #[.int .i64 2, .int .i64 n, .int .u8 x] 32)).alloc (.cells (enc zeroM) 29)) (w.heap.size + 1) #[.int .i64 2, .int .i64 n, .int .u8 x] by simpa using (Has.new (w.alloc (.cells (enc m) 29)) #[.int .i64 2, .int .i64 n, .int .u8 x] 32).alloc (.cells (enc zeroM) 29))
  have LO := Lib.hid (show n_ ≤ (w.heap.size + 1) from Nat.le_add_right_of_le (Nat.le_trans HN.out BB.out.size))
  have R0 := Lib.hid (show Has (((w.alloc (.cells (enc m) 29)).alloc (.cells #[.int .i64 2, .int .i64 n, .int .u8 x] 32)).alloc (.cells (enc zeroM) 29)) (w.heap.size + 2) (enc zeroM) by simpa using Has.new ((w.alloc (.cells (enc m) 29)).alloc (.cells #[.int .i64 2, .int .i64 n, .int .u8 x] 32)) (enc zeroM) 29)
  have LR := Lib.hid (show n_ ≤ (w.heap.size + 2) from Nat.le_add_right_of_le (Nat.le_trans HN.out BB.out.size))
  have NPO := Lib.hid (show w.heap.size + 0 ≠ w.heap.size + 1 by omega)
  have NPR := Lib.hid (show w.heap.size + 0 ≠ w.heap.size + 2 by omega)
  have NOR := Lib.hid (show w.heap.size + 1 ≠ w.heap.size + 2 by omega)
  simp only [Nat.add_zero] at LP NPO NPR
  clear Q_
  go_upto_region 1 with (fail)
  generalize (((w.alloc (.cells (enc m) 29)).alloc (.cells #[.int .i64 2, .int .i64 n, .int .u8 x] 32)).alloc (.cells (enc zeroM) 29)) = u0 at B0 P0 O0 R0 ⊢
  generalize w.heap.size + 2 = rb at R0 LR NPR NOR ⊢
  generalize w.heap.size + 1 = ob at O0 LO NPO NOR ⊢
  generalize w.heap.size = pb at P0 LP NPO NPR ⊢
  obtain ⟨hc, hf⟩ := O0.out.out
  go_wp2_with (fail)
  clear hc hf
  with_reducible refine (ST.out _).mono ?_
  rintro q_ u1 ⟨rfl, hb⟩
  have B1 := Lib.hid (vian HN.out B0.out hb)
  have P1 := Lib.hid (P0.out.below hb)
  have O1 := Lib.hid (O0.out.below hb)
  have R1 := Lib.hid (R0.out.below hb)
  clear hb B0 P0 O0 R0
  go_wp2
  go_loopg [7] N (fun g' i w5 => ∃ (t : Nat), t ≤ N ∧ g' + t = N ∧ i = .int .i64 t ∧ Below n_ W0 w5 ∧ Has w5 pb (enc (itN m t)) ∧ Has w5 ob #[.int .i64 2, .int .i64 n, .int .u8 x] ∧ Has w5 rb (enc zeroM))
  case atStart => exact ⟨0, by omega, by omega, rfl, B1.out, P1.out, O1.out, R1.out⟩
  case round =>
    obtain ⟨w5, hw5⟩ : ∃ q_, q_ = wr := ⟨_, rfl⟩
    subst hw5
    obtain ⟨t, ht, hg, rfl, hB, hP, hO, hR⟩ := hrel
    have TG := Lib.hid hg
    have B5 := Lib.hid hB
    have P5 := Lib.hid hP
    have O5 := Lib.hid hO
    have R5 := Lib.hid hR
    clear hg hB hP hO hR B1 P1 O1 R1
    by_cases hlt : t < N
    · have l1 : (t : Int) < N := by omega
      have SC := Lib.hid (fun W => tick_c (itN m t) (OK.out t) W)
      obtain ⟨m1, hm1⟩ : ∃ q_, itN m t = q_ := ⟨_, rfl⟩
      obtain ⟨m2, hm2⟩ : ∃ q_, itN m (t + 1) = q_ := ⟨_, rfl⟩
      have hm3 : tickV (itN m t) = m2 := hm2
      rw [hm3] at SC
      rw [hm1] at SC P5
      have HM := Lib.hid hm2
      clear hm1 hm2 hm3
      go_wp2_with (first | (refine load_b P5.out rfl _ rfl rfl ?_; simp only [Act.put, List.setIfInBounds_toArray, List.set_cons_zero, List.set_cons_succ]))
      with_reducible refine (SC.out _).mono ?_
      rintro q_ u6 ⟨rfl, hb⟩
      have B6 := Lib.hid (vian HN.out B5.out hb)
      have P6 := Lib.hid (P5.out.below hb)
      have O6 := Lib.hid (O5.out.below hb)
      have R6 := Lib.hid (R5.out.below hb)
      clear hb B5 P5 O5 R5
      go_wp2_with (refine store_b P6.out (m2) rfl _ _ rfl rfl rfl ?_)
      intro u7 hP hk
      have P7 := Lib.hid hP
      have B7 := Lib.hid (hk.below HN.out LP.out B6.out)
      have O7 := Lib.hid (hk.has (Ne.symm NPO.out) O6.out)
      have R7 := Lib.hid (hk.has (Ne.symm NPR.out) R6.out)
      clear hk hP B6 P6 O6 R6
      try simp only [Act.put]
      go_wp2
      go_roundg (N - (t + 1))
      case measure => have := TG.out; omega
      case rel => exact ⟨t + 1, by omega, by have := TG.out; omega, by simp, B7.out, by rw [HM.out]; exact P7.out, O7.out, R7.out⟩
    · have te : t = N := by omega
      subst te
      have l1 : ¬ (t : Int) < t := by omega
      obtain ⟨m1, hm1⟩ : ∃ q_, itN m t = q_ := ⟨_, rfl⟩
      have E := Lib.hid (hm1 ▸ E9.out)
      rw [hm1] at P5 SW
      clear hm1 E9
      obtain ⟨hc, hf⟩ := O5.out.out
      go_upto_region 6 with (fail)
      go_wp2_with (first | (refine load_b P5.out rfl _ rfl rfl ?_; simp only [Act.put, List.setIfInBounds_toArray, List.set_cons_zero, List.set_cons_succ]))
      clear hc hf
      with_reducible refine (SW.out _).mono ?_
      rintro q_ u6 ⟨rfl, hb⟩
      have B6 := Lib.hid (vian HN.out B5.out hb)
      have P6 := Lib.hid (P5.out.below hb)
      have O6 := Lib.hid (O5.out.below hb)
      have R6 := Lib.hid (R5.out.below hb)
      clear hb B5 P5 O5 R5
      go_wp2_with (refine store_b P6.out (m9) rfl _ _ rfl rfl rfl ?_)
      intro u7 hP hk
      have P7 := Lib.hid hP
      have B7 := Lib.hid (hk.below HN.out LP.out B6.out)
      have O7 := Lib.hid (hk.has (Ne.symm NPO.out) O6.out)
      have R7 := Lib.hid (hk.has (Ne.symm NPR.out) R6.out)
      clear hk hP B6 P6 O6 R6
      try simp only [Act.put]
      go_wp2_with (first | (refine load_b P7.out rfl _ rfl rfl ?_; simp only [Act.put, List.setIfInBounds_toArray, List.set_cons_zero, List.set_cons_succ]) | (refine store_b R7.out (m9) rfl _ _ rfl rfl rfl ?_))
      intro u8 hP hk
      have R8 := Lib.hid hP
      have B8 := Lib.hid (hk.below HN.out LR.out B7.out)
      have P8 := Lib.hid (hk.has NPR.out P7.out)
      have O8 := Lib.hid (hk.has NOR.out O7.out)
      clear hk hP B7 P7 O7 R7
      try simp only [Act.put]
      go_wp2_with (fail)
      all_goals exact bodyPost_ret (results_b rfl _ rfl R8.out) rfl ⟨rfl, B8.out⟩
set_option maxHeartbeats 4000000 in
theorem then_0 (m m9 : M) (k n x : Int) (N : Nat) (h : okM m) (hN : tickN k n = N) (hN2 : N < 100000) (h2 : ¬ k = 2) (h9 : m9 = itN m N) (w : World) : Calls Tryd.prog 9 #[.agg (enc m), .agg #[.int .i64 k, .int .i64 n, .int .u8 x]] w fun q_ w' => q_ = .returned (.agg (enc m9)) ∧ Below w.heap.size w w' := by
  suffices hall : ∀ (n_ : Nat) (W0 : World), n_ ≤ W0.heap.size → Below n_ W0 w → Calls Tryd.prog 9 #[.agg (enc m), .agg #[.int .i64 k, .int .i64 n, .int .u8 x]] w fun q_ w' => q_ = .returned (.agg (enc m9)) ∧ Below n_ W0 w' from hall _ _ (Nat.le_refl _) (Below.refl _ _)
  intro n_ W0 hn hB
  have HN := Lib.hid hn
  have BB := Lib.hid hB
  clear hn hB
  have ST := Lib.hid (fun W => ticks_c k n x W)
  rw [hN] at ST
  have OK := Lib.hid (fun t => ok_it h t)
  have E9 := Lib.hid h9
  have i2 : (k == 2) = false := by simpa using h2
  clear hN h h9
  have hz29 : ∀ w : World, (zeroValue 29).run Tryd.prog w = .ok (.agg (enc zeroM)) w := zero29
  have hnot : ∀ (x : Bool) (w : World), (Op.unary .not (.bool x)).run Tryd.prog w = .ok (.bool (!x)) w := fun _ _ => rfl
  go_enter Tryd.func9, Tryd.ntmps9
  have Q_ := own3 w (.cells (enc m) 29) (.cells #[.int .i64 k, .int .i64 n, .int .u8 x] 32) (.cells (enc zeroM) 29)
  have B0 := Lib.hid (vian HN.out BB.out Q_)
  have P0 := Lib.hid (show Has (((w.alloc (.cells (enc m) 29)).alloc (.cells #[.int .i64 k, .int .i64 n, .int .u8 x] 32)).alloc (.cells (enc zeroM) 29)) w.heap.size (enc m) by simpa using ((Has.new w (enc m) 29).alloc (.cells #[.int .i64 k, .int .i64 n, .int .u8 x] 32)).alloc (.cells (enc zeroM) 29))
  have LP := Lib.hid (show n_ ≤ w.heap.size + 0 from Nat.le_add_right_of_le (Nat.le_trans HN.out BB.out.size))
  have O0 := Lib.hid (show Has (((w.alloc (.cells (enc m) 29)).alloc (.cells #[.int .i64 k, .int .i64 n, .int .u8 x] 32)).alloc (.cells (enc zeroM) 29)) (w.heap.size + 1) #[.int .i64 k, .int .i64 n, .int .u8 x] by simpa using (Has.new (w.alloc (.cells (enc m) 29)) #[.int .i64 k, .int .i64 n, .int .u8 x] 32).alloc (.cells (enc zeroM) 29))
  have LO := Lib.hid (show n_ ≤ (w.heap.size + 1) from Nat.le_add_right_of_le (Nat.le_trans HN.out BB.out.size))
  have R0 := Lib.hid (show Has (((w.alloc (.cells (enc m) 29)).alloc (.cells #[.int .i64 k, .int .i64 n, .int .u8 x] 32)).alloc (.cells (enc zeroM) 29)) (w.heap.size + 2) (enc zeroM) by simpa using Has.new ((w.alloc (.cells (enc m) 29)).alloc (.cells #[.int .i64 k, .int .i64 n, .int .u8 x] 32)) (enc zeroM) 29)
  have LR := Lib.hid (show n_ ≤ (w.heap.size + 2) from Nat.le_add_right_of_le (Nat.le_trans HN.out BB.out.size))
  have NPO := Lib.hid (show w.heap.size + 0 ≠ w.heap.size + 1 by omega)
  have NPR := Lib.hid (show w.heap.size + 0 ≠ w.heap.size + 2 by omega)
  have NOR := Lib.hid (show w.heap.size + 1 ≠ w.heap.size + 2 by omega)
  simp only [Nat.add_zero] at LP NPO NPR
  clear Q_
  go_upto_region 1 with (fail)
  generalize (((w.alloc (.cells (enc m) 29)).alloc (.cells #[.int .i64 k, .int .i64 n, .int .u8 x] 32)).alloc (.cells (enc zeroM) 29)) = u0 at B0 P0 O0 R0 ⊢
  generalize w.heap.size + 2 = rb at R0 LR NPR NOR ⊢
  generalize w.heap.size + 1 = ob at O0 LO NPO NOR ⊢
  generalize w.heap.size = pb at P0 LP NPO NPR ⊢
  obtain ⟨hc, hf⟩ := O0.out.out
  go_wp2_with (fail)
  clear hc hf
  with_reducible refine (ST.out _).mono ?_
  rintro q_ u1 ⟨rfl, hb⟩
  have B1 := Lib.hid (vian HN.out B0.out hb)
  have P1 := Lib.hid (P0.out.below hb)
  have O1 := Lib.hid (O0.out.below hb)
  have R1 := Lib.hid (R0.out.below hb)
  clear hb B0 P0 O0 R0
  go_wp2
  go_loopg [7] N (fun g' i w5 => ∃ (t : Nat), t ≤ N ∧ g' + t = N ∧ i = .int .i64 t ∧ Below n_ W0 w5 ∧ Has w5 pb (enc (itN m t)) ∧ Has w5 ob #[.int .i64 k, .int .i64 n, .int .u8 x] ∧ Has w5 rb (enc zeroM))
  case atStart => exact ⟨0, by omega, by omega, rfl, B1.out, P1.out, O1.out, R1.out⟩
  case round =>
    obtain ⟨w5, hw5⟩ : ∃ q_, q_ = wr := ⟨_, rfl⟩
    subst hw5
    obtain ⟨t, ht, hg, rfl, hB, hP, hO, hR⟩ := hrel
    have TG := Lib.hid hg
    have B5 := Lib.hid hB
    have P5 := Lib.hid hP
    have O5 := Lib.hid hO
    have R5 := Lib.hid hR
    clear hg hB hP hO hR B1 P1 O1 R1
    by_cases hlt : t < N
    · have l1 : (t : Int) < N := by omega
      have SC := Lib.hid (fun W => tick_c (itN m t) (OK.out t) W)
      obtain ⟨m1, hm1⟩ : ∃ q_, itN m t = q_ := ⟨_, rfl⟩
      obtain ⟨m2, hm2⟩ : ∃ q_, itN m (t + 1) = q_ := ⟨_, rfl⟩
      have hm3 : tickV (itN m t) = m2 := hm2
      rw [hm3] at SC
      rw [hm1] at SC P5
      have HM := Lib.hid hm2
      clear hm1 hm2 hm3
      go_wp2_with (first | (refine load_b P5.out rfl _ rfl rfl ?_; simp only [Act.put, List.setIfInBounds_toArray, List.set_cons_zero, List.set_cons_succ]))
      with_reducible refine (SC.out _).mono ?_
      rintro q_ u6 ⟨rfl, hb⟩
      have B6 := Lib.hid (vian HN.out B5.out hb)
      have P6 := Lib.hid (P5.out.below hb)
      have O6 := Lib.hid (O5.out.below hb)
      have R6 := Lib.hid (R5.out.below hb)
      clear hb B5 P5 O5 R5
      go_wp2_with (refine store_b P6.out (m2) rfl _ _ rfl rfl rfl ?_)
      intro u7 hP hk
      have P7 := Lib.hid hP
      have B7 := Lib.hid (hk.below HN.out LP.out B6.out)
      have O7 := Lib.hid (hk.has (Ne.symm NPO.out) O6.out)
      have R7 := Lib.hid (hk.has (Ne.symm NPR.out) R6.out)
      clear hk hP B6 P6 O6 R6
      try simp only [Act.put]
      go_wp2
      go_roundg (N - (t + 1))
      case measure => have := TG.out; omega
      case rel => exact ⟨t + 1, by omega, by have := TG.out; omega, by simp, B7.out, by rw [HM.out]; exact P7.out, O7.out, R7.out⟩
    · have te : t = N := by omega
      subst te
      have l1 : ¬ (t : Int) < t := by omega
      obtain ⟨m1, hm1⟩ : ∃ q_, itN m t = q_ := ⟨_, rfl⟩
      have E := Lib.hid (hm1 ▸ E9.out)
      rw [hm1] at P5 
      clear hm1 E9
      obtain ⟨hc, hf⟩ := O5.out.out
      go_upto_region 7 with (fail)
      clear hc hf
      rw [show m1 = m9 from E.out.symm] at P5
      go_wp2_with (first | (refine load_b P5.out rfl _ rfl rfl ?_; simp only [Act.put, List.setIfInBounds_toArray, List.set_cons_zero, List.set_cons_succ]) | (refine store_b R5.out (m9) rfl _ _ rfl rfl rfl ?_))
      intro u6 hP hk
      have R6 := Lib.hid hP
      have B6 := Lib.hid (hk.below HN.out LR.out B5.out)
      have P6 := Lib.hid (hk.has NPR.out P5.out)
      have O6 := Lib.hid (hk.has NOR.out O5.out)
      clear hk hP B5 P5 O5 R5
      try simp only [Act.put]
      go_wp2_with (fail)
      all_goals exact bodyPost_ret (results_b rfl _ rfl R6.out) rfl ⟨rfl, B6.out⟩
theorem tickN_lt (k n : Int) : tickN k n < 100000 := by
  unfold tickN
  repeat' split
  all_goals omega
theorem then_c (m : M) (h : okM m) (k n x : Int) (g0 : 0 ≤ x) (g1 : x < 256) (w : World) : Calls Tryd.prog 9 #[.agg (enc m), .agg #[.int .i64 k, .int .i64 n, .int .u8 x]] w fun q_ w' => q_ = .returned (.agg (enc (thenV m k n x))) ∧ Below w.heap.size w w' := by
  unfold thenV
  by_cases h2 : k = 2
  · rw [if_pos h2]; exact then_1 m _ k n x _ h rfl (tickN_lt k n) h2 rfl g0 g1 w
  · rw [if_neg h2]; exact then_0 m _ k n x _ h rfl (tickN_lt k n) h2 rfl w
end Go.Proofs.YtonmnpadmphbdaaDoor
