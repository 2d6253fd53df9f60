/-
  The walk through SoundLevels: for every number of a voice, every byte, every number of turns; no condition but that each number fits, and that the table lies as it is laid.
-/
import Derived.Test.YtonmnpadmphbdaaDoorLv
import Derived.Deep.Cut
import Derived.BigQuiet
import Derived.WalkSmall
import Derived.Deep.LoopGhost
namespace Go.Proofs.YtonmnpadmphbdaaDoor
open Go.ChangeShapes Go.WideShapes Go.ChangeAt Go.RowKit
set_option linter.unusedVariables false
set_option linter.unusedSimpArgs false
set_option maxRecDepth 100000
set_option maxHeartbeats 8000000 in
theorem levels_0 (vn tt tn : Nat) (x : Int) (hv : vn % 3 = 0) (hv2 : vn < 256) (ht : tt % 20 = tn) (ht2 : tt < 256) (g0 : 0 ≤ x) (g1 : x < 256) (w : World) (hg : Glob w) : Calls Tryd.prog 7 #[.int .u8 vn, .int .u8 x, .int .u8 tt] w fun q_ w' => q_ = .returned (.bool true) ∧ Below w.heap.size w w' := by
  suffices hall : ∀ (n_ : Nat) (W0 : World), n_ ≤ W0.heap.size → Below n_ W0 w → Glob W0 → 0 < n_ → Calls Tryd.prog 7 #[.int .u8 vn, .int .u8 x, .int .u8 tt] w fun q_ w' => q_ = .returned (.bool true) ∧ Below n_ W0 w' from hall _ _ (Nat.le_refl _) (Below.refl _ _) hg hg.1
  clear hg
  intro n_ W0 hn hB hG hn0
  have HN := Lib.hid hn
  have BB := Lib.hid hB
  have HG := Lib.hid hG
  have N0 := Lib.hid hn0
  clear hn hB hG hn0
  have AW := Lib.hid awake_c
  obtain ⟨m1, hm1⟩ : ∃ q_, writeV zeroM 22 128 = q_ := ⟨_, rfl⟩
  obtain ⟨m2, hm2⟩ : ∃ q_, writeV m1 2 x = q_ := ⟨_, rfl⟩
  obtain ⟨m3, hm3⟩ : ∃ q_, writeV m2 4 128 = q_ := ⟨_, rfl⟩
  have k1 : okM m1 := hm1 ▸ ok_write ok_zero 22 128 (by decide) (by decide)
  have k2 : okM m2 := hm2 ▸ ok_write k1 2 x g0 g1
  have k3 : okM m3 := hm3 ▸ ok_write k2 4 128 (by decide) (by decide)
  have C1 := Lib.hid (fun W => write_c zeroM ok_zero 22 128 (by decide) (by decide) W)
  have C2 := Lib.hid (fun W => write_c m1 k1 2 x g0 g1 W)
  have C3 := Lib.hid (fun W => write_c m2 k2 4 128 (by decide) (by decide) W)
  rw [hm1] at C1
  rw [hm2] at C2
  rw [hm3] at C3
  have OI := Lib.hid (fun t => ok_it k3 t)
  have tn20 : tn < 20 := by omega
  have WL : itN m3 (16384 * tn) 53 = wantL x tn := by
    rw [← hm3, ← hm2, ← hm1]
    exact want_level 0 (by omega) x g0 g1 tn tn20
  obtain ⟨N, hN⟩ : ∃ q_, 16384 * tn = q_ := ⟨_, rfl⟩
  rw [hN] at WL
  have i3 : (vn : Int) % 3 = 0 := by omega
  have i3t : (vn : Int).tmod 3 = 0 := by rw [Int.tmod_eq_emod_of_nonneg (by omega)]; exact i3
  have n20 : (tt : Int) % 20 = (tn : Int) := by omega
  have n20t : (tt : Int).tmod 20 = (tn : Int) := by rw [Int.tmod_eq_emod_of_nonneg (by omega)]; exact n20
  have tn20i : (tn : Int) < 20 := by omega
  have nn : (tn : Int) * 8 * 2048 = (N : Int) := by omega
  have NB : N < 400000 := by omega
  have W_ := Lib.hid WL
  have HN8 := Lib.hid hN
  clear hm1 hm2 hm3 k1 k2 k3 WL hN hv ht
  have hz29 : ∀ w : World, (zeroValue 29).run Tryd.prog w = .ok (.agg (enc zeroM)) w := zero29
  have hnot : ∀ (x : Bool) (w : World), (Op.unary .not (.bool x)).run Tryd.prog w = .ok (.bool (!x)) w := fun _ _ => rfl
  go_enter Tryd.func7, Tryd.ntmps7
  go_wp2_with (fail)
  with_reducible refine (AW.out _ (HG.out.below N0.out BB.out)).mono ?_
  rintro q_ u1 ⟨rfl, hb⟩
  have B1 := Lib.hid (vian HN.out BB.out hb)
  clear hb 
  go_upto_region 4 with (fail)
  have Q_ := own1 u1 (.cells #[.int .i64 0, .int .i64 1, .int .i64 3] 3)
  have B2 := Lib.hid (vian HN.out B1.out Q_)
  generalize World.alloc u1 _ = u2 at B2 ⊢
  clear Q_ B1
  go_wp2_with (fail)
  with_reducible refine (C1.out _).mono ?_
  rintro q_ u3 ⟨rfl, hb⟩
  have B3 := Lib.hid (vian HN.out B2.out hb)
  clear hb B2
  go_wp2_with (fail)
  with_reducible refine (C2.out _).mono ?_
  rintro q_ u4 ⟨rfl, hb⟩
  have B4 := Lib.hid (vian HN.out B3.out hb)
  clear hb B3
  go_wp2_with (fail)
  with_reducible refine (C3.out _).mono ?_
  rintro q_ u5 ⟨rfl, hb⟩
  have B5 := Lib.hid (vian HN.out B4.out hb)
  clear hb B4
  go_wp2_with (refine store_b (Has.new u5 (enc zeroM) 29) (m3) rfl _ _ rfl rfl rfl ?_)
  intro u6 hP hk
  have Q_ := own1 u5 (.cells (enc zeroM) 29)
  have LP := Lib.hid (show n_ ≤ u5.heap.size from Nat.le_trans HN.out B5.out.size)
  have B6 := Lib.hid (hk.below HN.out LP.out (vian HN.out B5.out Q_))
  have P6 := Lib.hid hP
  generalize u5.heap.size = pb at LP  P6 ⊢
  clear hk hP Q_ B5
  try simp only [Act.put, List.setIfInBounds_toArray, List.set_cons_zero, List.set_cons_succ]
  go_upto_region 7 with (fail)
  go_loopg [36] N (fun g' i w5 => ∃ (s : Nat), s ≤ N ∧ g' + s = N ∧ i = .int .i64 s ∧ Below n_ W0 w5 ∧ Has w5 pb (enc (itN m3 s)))
  case atStart => exact ⟨0, by omega, by omega, rfl, B6.out, P6.out⟩
  case round =>
    obtain ⟨u20, hw7⟩ : ∃ q_, q_ = wr := ⟨_, rfl⟩
    subst hw7
    obtain ⟨s, hs, hg, rfl, hB, hP⟩ := hrel
    have SG := Lib.hid hg
    have B20 := Lib.hid hB
    have P20 := Lib.hid hP
    clear hg hB hP B6 P6
    by_cases hls : s < N
    · have l2 : (s : Int) < N := by omega
      have SC := Lib.hid (fun W => tick_c (itN m3 s) (OI.out s) W)
      obtain ⟨ma, hm1⟩ : ∃ q_, itN m3 s = q_ := ⟨_, rfl⟩
      obtain ⟨mb, hm2⟩ : ∃ q_, itN m3 (s + 1) = q_ := ⟨_, rfl⟩
      have hm3 : tickV (itN m3 s) = mb := hm2
      rw [hm3] at SC
      rw [hm1] at SC P20
      have HM := Lib.hid hm2
      clear hm1 hm2 hm3
      go_wp2_with (first | ((first | (refine load_b P20.out rfl _ rfl rfl ?_) | (refine load_bg P20.out rfl _ rfl rfl ?_)); simp only [Act.put, List.setIfInBounds_toArray, List.set_cons_zero, List.set_cons_succ]))
      with_reducible refine (SC.out _).mono ?_
      rintro q_ u21 ⟨rfl, hb⟩
      have B21 := Lib.hid (vian HN.out B20.out hb)
      have P21 := Lib.hid (P20.out.below hb)
      clear hb B20 P20
      go_wp2_with (refine store_b P21.out (mb) rfl _ _ rfl rfl rfl ?_)
      intro u22 hP hk
      have P22 := Lib.hid hP
      have B22 := Lib.hid (hk.below HN.out LP.out B21.out)
      clear hk hP B21 P21
      try simp only [Act.put]
      go_wp2
      go_roundg (N - (s + 1))
      case measure => have := SG.out; omega
      case rel => exact ⟨s + 1, by omega, by have := SG.out; omega, by simp, B22.out, by rw [HM.out]; exact P22.out⟩
    · have te : s = N := by omega
      subst te
      have l2 : ¬ (s : Int) < s := by omega
      obtain ⟨ma, hma⟩ : ∃ q_, itN m3 s = q_ := ⟨_, rfl⟩
      have WL := W_.out
      rw [hma] at P20 WL
      obtain ⟨lv, hlv⟩ : ∃ q_, ma 53 = q_ := ⟨_, rfl⟩
      have el : (enc ma)[53]? = some (.int .i64 lv) := by rw [enc_i _ _ rfl (by omega) (by omega), hlv]
      rw [hlv] at WL
      have bb := b8 x g0 g1
      unfold wantL at WL
      obtain ⟨e, he⟩ : ∃ q_, x % 8 = q_ := ⟨_, rfl⟩
      obtain ⟨a0, ha⟩ : ∃ q_, x / 16 = q_ := ⟨_, rfl⟩
      obtain ⟨q, hq⟩ : ∃ q_, (tn : Int) / e = q_ := ⟨_, rfl⟩
      have eb : 0 ≤ e ∧ e < 8 := by omega
      have ab : 0 ≤ a0 ∧ a0 < 16 := by omega
      rw [he, ha, hq] at WL
      have hqt : (tn : Int).tdiv e = q := by rw [Int.tdiv_eq_ediv_of_nonneg (by omega)]; exact hq
      have qb : 0 ≤ q ∧ q < 20 := by
        rw [← hq]
        by_cases z : e = 0
        · rw [z]; simp
        · exact ⟨Int.ediv_nonneg (by omega) (by omega), Int.lt_of_le_of_lt (Int.ediv_le_self _ (by omega)) (by omega)⟩
      clear hma hlv hls hs HN8 W_
      by_cases z : e = 0
      · skip
        obtain ⟨hc, hf⟩ := P20.out.out
        rw [if_neg (by omega)] at WL
        have z2 : decide (0 < e) = false := by simp; omega
        have z3 : ¬ 0 < e := by omega
        have cmp : (lv == a0) = true := by simp [WL]
        clear bb WL
        go_wp2
        all_goals exact bodyPost_ret (v := .bool true) (by simp [results, Tryd.results7, go_sem]) rfl ⟨rfl, B20.out⟩
      · have z2 : decide (0 < e) = true := by simp; omega
        have z3 : 0 < e := by omega
        rw [if_pos z3] at WL
        by_cases up : x / 8 % 2 = 1
        · rw [if_pos up] at WL
          rw [decide_eq_true up] at bb
          obtain ⟨s1, hs1⟩ : ∃ q_, a0 + q = q_ := ⟨_, rfl⟩
          rw [hs1] at WL
          by_cases c : 15 ≤ s1
          · skip
            obtain ⟨hc, hf⟩ := P20.out.out
            have c2 : ¬ s1 < 15 := by omega
            have cmp : (lv == 15) = true := by simp; omega
            clear WL
            go_wp2
            all_goals exact bodyPost_ret (v := .bool true) (by simp [results, Tryd.results7, go_sem]) rfl ⟨rfl, B20.out⟩
          · skip
            obtain ⟨hc, hf⟩ := P20.out.out
            have c2 : s1 < 15 := by omega
            have c3 : s1 ≤ 15 := by omega
            have cmp : (lv == s1) = true := by simp; omega
            clear WL
            go_wp2
            all_goals exact bodyPost_ret (v := .bool true) (by simp [results, Tryd.results7, go_sem]) rfl ⟨rfl, B20.out⟩
        · rw [if_neg up] at WL
          rw [decide_eq_false up] at bb
          obtain ⟨s1, hs1⟩ : ∃ q_, a0 - q = q_ := ⟨_, rfl⟩
          rw [hs1] at WL
          by_cases c : 0 < s1
          · skip
            obtain ⟨hc, hf⟩ := P20.out.out
            have c2 : ¬ s1 ≤ 0 := by omega
            have c3 : 0 ≤ s1 := by omega
            have cmp : (lv == s1) = true := by simp; omega
            clear WL
            go_wp2
            all_goals exact bodyPost_ret (v := .bool true) (by simp [results, Tryd.results7, go_sem]) rfl ⟨rfl, B20.out⟩
          · skip
            obtain ⟨hc, hf⟩ := P20.out.out
            have c2 : s1 ≤ 0 := by omega
            have cmp : (lv == 0) = true := by simp; omega
            clear WL
            go_wp2
            all_goals exact bodyPost_ret (v := .bool true) (by simp [results, Tryd.results7, go_sem]) rfl ⟨rfl, B20.out⟩
set_option maxHeartbeats 8000000 in
theorem levels_1 (vn tt tn : Nat) (x : Int) (hv : vn % 3 = 1) (hv2 : vn < 256) (ht : tt % 20 = tn) (ht2 : tt < 256) (g0 : 0 ≤ x) (g1 : x < 256) (w : World) (hg : Glob w) : Calls Tryd.prog 7 #[.int .u8 vn, .int .u8 x, .int .u8 tt] w fun q_ w' => q_ = .returned (.bool true) ∧ Below w.heap.size w w' := by
  suffices hall : ∀ (n_ : Nat) (W0 : World), n_ ≤ W0.heap.size → Below n_ W0 w → Glob W0 → 0 < n_ → Calls Tryd.prog 7 #[.int .u8 vn, .int .u8 x, .int .u8 tt] w fun q_ w' => q_ = .returned (.bool true) ∧ Below n_ W0 w' from hall _ _ (Nat.le_refl _) (Below.refl _ _) hg hg.1
  clear hg
  intro n_ W0 hn hB hG hn0
  have HN := Lib.hid hn
  have BB := Lib.hid hB
  have HG := Lib.hid hG
  have N0 := Lib.hid hn0
  clear hn hB hG hn0
  have AW := Lib.hid awake_c
  obtain ⟨m1, hm1⟩ : ∃ q_, writeV zeroM 22 128 = q_ := ⟨_, rfl⟩
  obtain ⟨m2, hm2⟩ : ∃ q_, writeV m1 7 x = q_ := ⟨_, rfl⟩
  obtain ⟨m3, hm3⟩ : ∃ q_, writeV m2 9 128 = q_ := ⟨_, rfl⟩
  have k1 : okM m1 := hm1 ▸ ok_write ok_zero 22 128 (by decide) (by decide)
  have k2 : okM m2 := hm2 ▸ ok_write k1 7 x g0 g1
  have k3 : okM m3 := hm3 ▸ ok_write k2 9 128 (by decide) (by decide)
  have C1 := Lib.hid (fun W => write_c zeroM ok_zero 22 128 (by decide) (by decide) W)
  have C2 := Lib.hid (fun W => write_c m1 k1 7 x g0 g1 W)
  have C3 := Lib.hid (fun W => write_c m2 k2 9 128 (by decide) (by decide) W)
  rw [hm1] at C1
  rw [hm2] at C2
  rw [hm3] at C3
  have OI := Lib.hid (fun t => ok_it k3 t)
  have tn20 : tn < 20 := by omega
  have WL : itN m3 (16384 * tn) 57 = wantL x tn := by
    rw [← hm3, ← hm2, ← hm1]
    exact want_level 1 (by omega) x g0 g1 tn tn20
  obtain ⟨N, hN⟩ : ∃ q_, 16384 * tn = q_ := ⟨_, rfl⟩
  rw [hN] at WL
  have i3 : (vn : Int) % 3 = 1 := by omega
  have i3t : (vn : Int).tmod 3 = 1 := by rw [Int.tmod_eq_emod_of_nonneg (by omega)]; exact i3
  have n20 : (tt : Int) % 20 = (tn : Int) := by omega
  have n20t : (tt : Int).tmod 20 = (tn : Int) := by rw [Int.tmod_eq_emod_of_nonneg (by omega)]; exact n20
  have tn20i : (tn : Int) < 20 := by omega
  have nn : (tn : Int) * 8 * 2048 = (N : Int) := by omega
  have NB : N < 400000 := by omega
  have W_ := Lib.hid WL
  have HN8 := Lib.hid hN
  clear hm1 hm2 hm3 k1 k2 k3 WL hN hv ht
  have hz29 : ∀ w : World, (zeroValue 29).run Tryd.prog w = .ok (.agg (enc zeroM)) w := zero29
  have hnot : ∀ (x : Bool) (w : World), (Op.unary .not (.bool x)).run Tryd.prog w = .ok (.bool (!x)) w := fun _ _ => rfl
  go_enter Tryd.func7, Tryd.ntmps7
  go_wp2_with (fail)
  with_reducible refine (AW.out _ (HG.out.below N0.out BB.out)).mono ?_
  rintro q_ u1 ⟨rfl, hb⟩
  have B1 := Lib.hid (vian HN.out BB.out hb)
  clear hb 
  go_upto_region 4 with (fail)
  have Q_ := own1 u1 (.cells #[.int .i64 0, .int .i64 1, .int .i64 3] 3)
  have B2 := Lib.hid (vian HN.out B1.out Q_)
  generalize World.alloc u1 _ = u2 at B2 ⊢
  clear Q_ B1
  go_wp2_with (fail)
  with_reducible refine (C1.out _).mono ?_
  rintro q_ u3 ⟨rfl, hb⟩
  have B3 := Lib.hid (vian HN.out B2.out hb)
  clear hb B2
  go_wp2_with (fail)
  with_reducible refine (C2.out _).mono ?_
  rintro q_ u4 ⟨rfl, hb⟩
  have B4 := Lib.hid (vian HN.out B3.out hb)
  clear hb B3
  go_wp2_with (fail)
  with_reducible refine (C3.out _).mono ?_
  rintro q_ u5 ⟨rfl, hb⟩
  have B5 := Lib.hid (vian HN.out B4.out hb)
  clear hb B4
  go_wp2_with (refine store_b (Has.new u5 (enc zeroM) 29) (m3) rfl _ _ rfl rfl rfl ?_)
  intro u6 hP hk
  have Q_ := own1 u5 (.cells (enc zeroM) 29)
  have LP := Lib.hid (show n_ ≤ u5.heap.size from Nat.le_trans HN.out B5.out.size)
  have B6 := Lib.hid (hk.below HN.out LP.out (vian HN.out B5.out Q_))
  have P6 := Lib.hid hP
  generalize u5.heap.size = pb at LP  P6 ⊢
  clear hk hP Q_ B5
  try simp only [Act.put, List.setIfInBounds_toArray, List.set_cons_zero, List.set_cons_succ]
  go_upto_region 7 with (fail)
  go_loopg [36] N (fun g' i w5 => ∃ (s : Nat), s ≤ N ∧ g' + s = N ∧ i = .int .i64 s ∧ Below n_ W0 w5 ∧ Has w5 pb (enc (itN m3 s)))
  case atStart => exact ⟨0, by omega, by omega, rfl, B6.out, P6.out⟩
  case round =>
    obtain ⟨u20, hw7⟩ : ∃ q_, q_ = wr := ⟨_, rfl⟩
    subst hw7
    obtain ⟨s, hs, hg, rfl, hB, hP⟩ := hrel
    have SG := Lib.hid hg
    have B20 := Lib.hid hB
    have P20 := Lib.hid hP
    clear hg hB hP B6 P6
    by_cases hls : s < N
    · have l2 : (s : Int) < N := by omega
      have SC := Lib.hid (fun W => tick_c (itN m3 s) (OI.out s) W)
      obtain ⟨ma, hm1⟩ : ∃ q_, itN m3 s = q_ := ⟨_, rfl⟩
      obtain ⟨mb, hm2⟩ : ∃ q_, itN m3 (s + 1) = q_ := ⟨_, rfl⟩
      have hm3 : tickV (itN m3 s) = mb := hm2
      rw [hm3] at SC
      rw [hm1] at SC P20
      have HM := Lib.hid hm2
      clear hm1 hm2 hm3
      go_wp2_with (first | ((first | (refine load_b P20.out rfl _ rfl rfl ?_) | (refine load_bg P20.out rfl _ rfl rfl ?_)); simp only [Act.put, List.setIfInBounds_toArray, List.set_cons_zero, List.set_cons_succ]))
      with_reducible refine (SC.out _).mono ?_
      rintro q_ u21 ⟨rfl, hb⟩
      have B21 := Lib.hid (vian HN.out B20.out hb)
      have P21 := Lib.hid (P20.out.below hb)
      clear hb B20 P20
      go_wp2_with (refine store_b P21.out (mb) rfl _ _ rfl rfl rfl ?_)
      intro u22 hP hk
      have P22 := Lib.hid hP
      have B22 := Lib.hid (hk.below HN.out LP.out B21.out)
      clear hk hP B21 P21
      try simp only [Act.put]
      go_wp2
      go_roundg (N - (s + 1))
      case measure => have := SG.out; omega
      case rel => exact ⟨s + 1, by omega, by have := SG.out; omega, by simp, B22.out, by rw [HM.out]; exact P22.out⟩
    · have te : s = N := by omega
      subst te
      have l2 : ¬ (s : Int) < s := by omega
      obtain ⟨ma, hma⟩ : ∃ q_, itN m3 s = q_ := ⟨_, rfl⟩
      have WL := W_.out
      rw [hma] at P20 WL
      obtain ⟨lv, hlv⟩ : ∃ q_, ma 57 = q_ := ⟨_, rfl⟩
      have el : (enc ma)[57]? = some (.int .i64 lv) := by rw [enc_i _ _ rfl (by omega) (by omega), hlv]
      rw [hlv] at WL
      have bb := b8 x g0 g1
      unfold wantL at WL
      obtain ⟨e, he⟩ : ∃ q_, x % 8 = q_ := ⟨_, rfl⟩
      obtain ⟨a0, ha⟩ : ∃ q_, x / 16 = q_ := ⟨_, rfl⟩
      obtain ⟨q, hq⟩ : ∃ q_, (tn : Int) / e = q_ := ⟨_, rfl⟩
      have eb : 0 ≤ e ∧ e < 8 := by omega
      have ab : 0 ≤ a0 ∧ a0 < 16 := by omega
      rw [he, ha, hq] at WL
      have hqt : (tn : Int).tdiv e = q := by rw [Int.tdiv_eq_ediv_of_nonneg (by omega)]; exact hq
      have qb : 0 ≤ q ∧ q < 20 := by
        rw [← hq]
        by_cases z : e = 0
        · rw [z]; simp
        · exact ⟨Int.ediv_nonneg (by omega) (by omega), Int.lt_of_le_of_lt (Int.ediv_le_self _ (by omega)) (by omega)⟩
      clear hma hlv hls hs HN8 W_
      by_cases z : e = 0
      · skip
        obtain ⟨hc, hf⟩ := P20.out.out
        rw [if_neg (by omega)] at WL
        have z2 : decide (0 < e) = false := by simp; omega
        have z3 : ¬ 0 < e := by omega
        have cmp : (lv == a0) = true := by simp [WL]
        clear bb WL
        go_wp2
        all_goals exact bodyPost_ret (v := .bool true) (by simp [results, Tryd.results7, go_sem]) rfl ⟨rfl, B20.out⟩
      · have z2 : decide (0 < e) = true := by simp; omega
        have z3 : 0 < e := by omega
        rw [if_pos z3] at WL
        by_cases up : x / 8 % 2 = 1
        · rw [if_pos up] at WL
          rw [decide_eq_true up] at bb
          obtain ⟨s1, hs1⟩ : ∃ q_, a0 + q = q_ := ⟨_, rfl⟩
          rw [hs1] at WL
          by_cases c : 15 ≤ s1
          · skip
            obtain ⟨hc, hf⟩ := P20.out.out
            have c2 : ¬ s1 < 15 := by omega
            have cmp : (lv == 15) = true := by simp; omega
            clear WL
            go_wp2
            all_goals exact bodyPost_ret (v := .bool true) (by simp [results, Tryd.results7, go_sem]) rfl ⟨rfl, B20.out⟩
          · skip
            obtain ⟨hc, hf⟩ := P20.out.out
            have c2 : s1 < 15 := by omega
            have c3 : s1 ≤ 15 := by omega
            have cmp : (lv == s1) = true := by simp; omega
            clear WL
            go_wp2
            all_goals exact bodyPost_ret (v := .bool true) (by simp [results, Tryd.results7, go_sem]) rfl ⟨rfl, B20.out⟩
        · rw [if_neg up] at WL
          rw [decide_eq_false up] at bb
          obtain ⟨s1, hs1⟩ : ∃ q_, a0 - q = q_ := ⟨_, rfl⟩
          rw [hs1] at WL
          by_cases c : 0 < s1
          · skip
            obtain ⟨hc, hf⟩ := P20.out.out
            have c2 : ¬ s1 ≤ 0 := by omega
            have c3 : 0 ≤ s1 := by omega
            have cmp : (lv == s1) = true := by simp; omega
            clear WL
            go_wp2
            all_goals exact bodyPost_ret (v := .bool true) (by simp [results, Tryd.results7, go_sem]) rfl ⟨rfl, B20.out⟩
          · skip
            obtain ⟨hc, hf⟩ := P20.out.out
            have c2 : s1 ≤ 0 := by omega
            have cmp : (lv == 0) = true := by simp; omega
            clear WL
            go_wp2
            all_goals exact bodyPost_ret (v := .bool true) (by simp [results, Tryd.results7, go_sem]) rfl ⟨rfl, B20.out⟩
set_option maxHeartbeats 8000000 in
theorem levels_3 (vn tt tn : Nat) (x : Int) (hv : vn % 3 = 2) (hv2 : vn < 256) (ht : tt % 20 = tn) (ht2 : tt < 256) (g0 : 0 ≤ x) (g1 : x < 256) (w : World) (hg : Glob w) : Calls Tryd.prog 7 #[.int .u8 vn, .int .u8 x, .int .u8 tt] w fun q_ w' => q_ = .returned (.bool true) ∧ Below w.heap.size w w' := by
  suffices hall : ∀ (n_ : Nat) (W0 : World), n_ ≤ W0.heap.size → Below n_ W0 w → Glob W0 → 0 < n_ → Calls Tryd.prog 7 #[.int .u8 vn, .int .u8 x, .int .u8 tt] w fun q_ w' => q_ = .returned (.bool true) ∧ Below n_ W0 w' from hall _ _ (Nat.le_refl _) (Below.refl _ _) hg hg.1
  clear hg
  intro n_ W0 hn hB hG hn0
  have HN := Lib.hid hn
  have BB := Lib.hid hB
  have HG := Lib.hid hG
  have N0 := Lib.hid hn0
  clear hn hB hG hn0
  have AW := Lib.hid awake_c
  obtain ⟨m1, hm1⟩ : ∃ q_, writeV zeroM 22 128 = q_ := ⟨_, rfl⟩
  obtain ⟨m2, hm2⟩ : ∃ q_, writeV m1 17 x = q_ := ⟨_, rfl⟩
  obtain ⟨m3, hm3⟩ : ∃ q_, writeV m2 19 128 = q_ := ⟨_, rfl⟩
  have k1 : okM m1 := hm1 ▸ ok_write ok_zero 22 128 (by decide) (by decide)
  have k2 : okM m2 := hm2 ▸ ok_write k1 17 x g0 g1
  have k3 : okM m3 := hm3 ▸ ok_write k2 19 128 (by decide) (by decide)
  have C1 := Lib.hid (fun W => write_c zeroM ok_zero 22 128 (by decide) (by decide) W)
  have C2 := Lib.hid (fun W => write_c m1 k1 17 x g0 g1 W)
  have C3 := Lib.hid (fun W => write_c m2 k2 19 128 (by decide) (by decide) W)
  rw [hm1] at C1
  rw [hm2] at C2
  rw [hm3] at C3
  have OI := Lib.hid (fun t => ok_it k3 t)
  have tn20 : tn < 20 := by omega
  have WL : itN m3 (16384 * tn) 65 = wantL x tn := by
    rw [← hm3, ← hm2, ← hm1]
    exact want_level 3 (by omega) x g0 g1 tn tn20
  obtain ⟨N, hN⟩ : ∃ q_, 16384 * tn = q_ := ⟨_, rfl⟩
  rw [hN] at WL
  have i3 : (vn : Int) % 3 = 2 := by omega
  have i3t : (vn : Int).tmod 3 = 2 := by rw [Int.tmod_eq_emod_of_nonneg (by omega)]; exact i3
  have n20 : (tt : Int) % 20 = (tn : Int) := by omega
  have n20t : (tt : Int).tmod 20 = (tn : Int) := by rw [Int.tmod_eq_emod_of_nonneg (by omega)]; exact n20
  have tn20i : (tn : Int) < 20 := by omega
  have nn : (tn : Int) * 8 * 2048 = (N : Int) := by omega
  have NB : N < 400000 := by omega
  have W_ := Lib.hid WL
  have HN8 := Lib.hid hN
  clear hm1 hm2 hm3 k1 k2 k3 WL hN hv ht
  have hz29 : ∀ w : World, (zeroValue 29).run Tryd.prog w = .ok (.agg (enc zeroM)) w := zero29
  have hnot : ∀ (x : Bool) (w : World), (Op.unary .not (.bool x)).run Tryd.prog w = .ok (.bool (!x)) w := fun _ _ => rfl
  go_enter Tryd.func7, Tryd.ntmps7
  go_wp2_with (fail)
  with_reducible refine (AW.out _ (HG.out.below N0.out BB.out)).mono ?_
  rintro q_ u1 ⟨rfl, hb⟩
  have B1 := Lib.hid (vian HN.out BB.out hb)
  clear hb 
  go_upto_region 4 with (fail)
  have Q_ := own1 u1 (.cells #[.int .i64 0, .int .i64 1, .int .i64 3] 3)
  have B2 := Lib.hid (vian HN.out B1.out Q_)
  generalize World.alloc u1 _ = u2 at B2 ⊢
  clear Q_ B1
  go_wp2_with (fail)
  with_reducible refine (C1.out _).mono ?_
  rintro q_ u3 ⟨rfl, hb⟩
  have B3 := Lib.hid (vian HN.out B2.out hb)
  clear hb B2
  go_wp2_with (fail)
  with_reducible refine (C2.out _).mono ?_
  rintro q_ u4 ⟨rfl, hb⟩
  have B4 := Lib.hid (vian HN.out B3.out hb)
  clear hb B3
  go_wp2_with (fail)
  with_reducible refine (C3.out _).mono ?_
  rintro q_ u5 ⟨rfl, hb⟩
  have B5 := Lib.hid (vian HN.out B4.out hb)
  clear hb B4
  go_wp2_with (refine store_b (Has.new u5 (enc zeroM) 29) (m3) rfl _ _ rfl rfl rfl ?_)
  intro u6 hP hk
  have Q_ := own1 u5 (.cells (enc zeroM) 29)
  have LP := Lib.hid (show n_ ≤ u5.heap.size from Nat.le_trans HN.out B5.out.size)
  have B6 := Lib.hid (hk.below HN.out LP.out (vian HN.out B5.out Q_))
  have P6 := Lib.hid hP
  generalize u5.heap.size = pb at LP  P6 ⊢
  clear hk hP Q_ B5
  try simp only [Act.put, List.setIfInBounds_toArray, List.set_cons_zero, List.set_cons_succ]
  go_upto_region 7 with (fail)
  go_loopg [36] N (fun g' i w5 => ∃ (s : Nat), s ≤ N ∧ g' + s = N ∧ i = .int .i64 s ∧ Below n_ W0 w5 ∧ Has w5 pb (enc (itN m3 s)))
  case atStart => exact ⟨0, by omega, by omega, rfl, B6.out, P6.out⟩
  case round =>
    obtain ⟨u20, hw7⟩ : ∃ q_, q_ = wr := ⟨_, rfl⟩
    subst hw7
    obtain ⟨s, hs, hg, rfl, hB, hP⟩ := hrel
    have SG := Lib.hid hg
    have B20 := Lib.hid hB
    have P20 := Lib.hid hP
    clear hg hB hP B6 P6
    by_cases hls : s < N
    · have l2 : (s : Int) < N := by omega
      have SC := Lib.hid (fun W => tick_c (itN m3 s) (OI.out s) W)
      obtain ⟨ma, hm1⟩ : ∃ q_, itN m3 s = q_ := ⟨_, rfl⟩
      obtain ⟨mb, hm2⟩ : ∃ q_, itN m3 (s + 1) = q_ := ⟨_, rfl⟩
      have hm3 : tickV (itN m3 s) = mb := hm2
      rw [hm3] at SC
      rw [hm1] at SC P20
      have HM := Lib.hid hm2
      clear hm1 hm2 hm3
      go_wp2_with (first | ((first | (refine load_b P20.out rfl _ rfl rfl ?_) | (refine load_bg P20.out rfl _ rfl rfl ?_)); simp only [Act.put, List.setIfInBounds_toArray, List.set_cons_zero, List.set_cons_succ]))
      with_reducible refine (SC.out _).mono ?_
      rintro q_ u21 ⟨rfl, hb⟩
      have B21 := Lib.hid (vian HN.out B20.out hb)
      have P21 := Lib.hid (P20.out.below hb)
      clear hb B20 P20
      go_wp2_with (refine store_b P21.out (mb) rfl _ _ rfl rfl rfl ?_)
      intro u22 hP hk
      have P22 := Lib.hid hP
      have B22 := Lib.hid (hk.below HN.out LP.out B21.out)
      clear hk hP B21 P21
      try simp only [Act.put]
      go_wp2
      go_roundg (N - (s + 1))
      case measure => have := SG.out; omega
      case rel => exact ⟨s + 1, by omega, by have := SG.out; omega, by simp, B22.out, by rw [HM.out]; exact P22.out⟩
    · have te : s = N := by omega
      subst te
      have l2 : ¬ (s : Int) < s := by omega
      obtain ⟨ma, hma⟩ : ∃ q_, itN m3 s = q_ := ⟨_, rfl⟩
      have WL := W_.out
      rw [hma] at P20 WL
      obtain ⟨lv, hlv⟩ : ∃ q_, ma 65 = q_ := ⟨_, rfl⟩
      have el : (enc ma)[65]? = some (.int .i64 lv) := by rw [enc_i _ _ rfl (by omega) (by omega), hlv]
      rw [hlv] at WL
      have bb := b8 x g0 g1
      unfold wantL at WL
      obtain ⟨e, he⟩ : ∃ q_, x % 8 = q_ := ⟨_, rfl⟩
      obtain ⟨a0, ha⟩ : ∃ q_, x / 16 = q_ := ⟨_, rfl⟩
      obtain ⟨q, hq⟩ : ∃ q_, (tn : Int) / e = q_ := ⟨_, rfl⟩
      have eb : 0 ≤ e ∧ e < 8 := by omega
      have ab : 0 ≤ a0 ∧ a0 < 16 := by omega
      rw [he, ha, hq] at WL
      have hqt : (tn : Int).tdiv e = q := by rw [Int.tdiv_eq_ediv_of_nonneg (by omega)]; exact hq
      have qb : 0 ≤ q ∧ q < 20 := by
        rw [← hq]
        by_cases z : e = 0
        · rw [z]; simp
        · exact ⟨Int.ediv_nonneg (by omega) (by omega), Int.lt_of_le_of_lt (Int.ediv_le_self _ (by omega)) (by omega)⟩
      clear hma hlv hls hs HN8 W_
      by_cases z : e = 0
      · skip
        obtain ⟨hc, hf⟩ := P20.out.out
        rw [if_neg (by omega)] at WL
        have z2 : decide (0 < e) = false := by simp; omega
        have z3 : ¬ 0 < e := by omega
        have cmp : (lv == a0) = true := by simp [WL]
        clear bb WL
        go_wp2
        all_goals exact bodyPost_ret (v := .bool true) (by simp [results, Tryd.results7, go_sem]) rfl ⟨rfl, B20.out⟩
      · have z2 : decide (0 < e) = true := by simp; omega
        have z3 : 0 < e := by omega
        rw [if_pos z3] at WL
        by_cases up : x / 8 % 2 = 1
        · rw [if_pos up] at WL
          rw [decide_eq_true up] at bb
          obtain ⟨s1, hs1⟩ : ∃ q_, a0 + q = q_ := ⟨_, rfl⟩
          rw [hs1] at WL
          by_cases c : 15 ≤ s1
          · skip
            obtain ⟨hc, hf⟩ := P20.out.out
            have c2 : ¬ s1 < 15 := by omega
            have cmp : (lv == 15) = true := by simp; omega
            clear WL
            go_wp2
            all_goals exact bodyPost_ret (v := .bool true) (by simp [results, Tryd.results7, go_sem]) rfl ⟨rfl, B20.out⟩
          · skip
            obtain ⟨hc, hf⟩ := P20.out.out
            have c2 : s1 < 15 := by omega
            have c3 : s1 ≤ 15 := by omega
            have cmp : (lv == s1) = true := by simp; omega
            clear WL
            go_wp2
            all_goals exact bodyPost_ret (v := .bool true) (by simp [results, Tryd.results7, go_sem]) rfl ⟨rfl, B20.out⟩
        · rw [if_neg up] at WL
          rw [decide_eq_false up] at bb
          obtain ⟨s1, hs1⟩ : ∃ q_, a0 - q = q_ := ⟨_, rfl⟩
          rw [hs1] at WL
          by_cases c : 0 < s1
          · skip
            obtain ⟨hc, hf⟩ := P20.out.out
            have c2 : ¬ s1 ≤ 0 := by omega
            have c3 : 0 ≤ s1 := by omega
            have cmp : (lv == s1) = true := by simp; omega
            clear WL
            go_wp2
            all_goals exact bodyPost_ret (v := .bool true) (by simp [results, Tryd.results7, go_sem]) rfl ⟨rfl, B20.out⟩
          · skip
            obtain ⟨hc, hf⟩ := P20.out.out
            have c2 : s1 ≤ 0 := by omega
            have cmp : (lv == 0) = true := by simp; omega
            clear WL
            go_wp2
            all_goals exact bodyPost_ret (v := .bool true) (by simp [results, Tryd.results7, go_sem]) rfl ⟨rfl, B20.out⟩
theorem levels_walk (vn : Nat) (x : Int) (tt : Nat) (hv : vn < 256) (g0 : 0 ≤ x) (g1 : x < 256) (ht : tt < 256) (w : World) (hg : Glob w) :
    Calls Tryd.prog 7 #[.int .u8 vn, .int .u8 x, .int .u8 tt] w fun q_ w' => q_ = .returned (.bool true) ∧ Below w.heap.size w w' := by
  by_cases h0 : vn % 3 = 0
  · exact levels_0 vn tt _ x h0 hv rfl ht g0 g1 w hg
  · by_cases h1 : vn % 3 = 1
    · exact levels_1 vn tt _ x h1 hv rfl ht g0 g1 w hg
    · exact levels_3 vn tt _ x (by omega) hv rfl ht g0 g1 w hg
end Go.Proofs.YtonmnpadmphbdaaDoor
