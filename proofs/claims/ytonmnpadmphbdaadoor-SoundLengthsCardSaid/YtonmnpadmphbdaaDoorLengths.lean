/-
  The walk through SoundLengths: for every number of a voice, every byte, counted or not; no condition but that each number fits, and that the table lies as it is laid.
-/
import Derived.Test.YtonmnpadmphbdaaDoorLen
import Derived.Deep.Cut
import Derived.BigQuiet
import Derived.WalkSmall
import Derived.Deep.LoopGhost
namespace Go.Proofs.YtonmnpadmphbdaaDoor
open Go.ChangeShapes Go.WideShapes Go.ChangeAt Go.RowKit
set_option linter.unusedVariables false
set_option linter.unusedSimpArgs false
set_option maxRecDepth 100000
set_option maxHeartbeats 8000000 in
theorem lengths_01 (vn : Nat) (x : Int) (hv : vn % 4 = 0) (hv2 : vn < 256) (g0 : 0 ≤ x) (g1 : x < 256) (w : World) (hg : Glob w) : Calls Tryd.prog 4 #[.int .u8 vn, .int .u8 x, .bool true] w fun q_ w' => q_ = .returned (.bool true) ∧ Below w.heap.size w w' := by
  suffices hall : ∀ (n_ : Nat) (W0 : World), n_ ≤ W0.heap.size → Below n_ W0 w → Glob W0 → 0 < n_ → Calls Tryd.prog 4 #[.int .u8 vn, .int .u8 x, .bool true] w fun q_ w' => q_ = .returned (.bool true) ∧ Below n_ W0 w' from hall _ _ (Nat.le_refl _) (Below.refl _ _) hg hg.1
  clear hg
  intro n_ W0 hn hB hG hn0
  have HN := Lib.hid hn
  have BB := Lib.hid hB
  have HG := Lib.hid hG
  have N0 := Lib.hid hn0
  clear hn hB hG hn0
  have AW := Lib.hid awake_c
  obtain ⟨m1, hm1⟩ : ∃ q_, writeV zeroM 22 128 = q_ := ⟨_, rfl⟩
  obtain ⟨m2, hm2⟩ : ∃ q_, writeV m1 10 128 = q_ := ⟨_, rfl⟩
  obtain ⟨m3, hm3⟩ : ∃ q_, writeV m2 2 240 = q_ := ⟨_, rfl⟩
  obtain ⟨m4, hm4⟩ : ∃ q_, writeV m3 1 x = q_ := ⟨_, rfl⟩
  obtain ⟨m5, hm5⟩ : ∃ q_, writeV m4 4 192 = q_ := ⟨_, rfl⟩
  have k1 : okM m1 := hm1 ▸ ok_write ok_zero 22 128 (by decide) (by decide)
  have k2 : okM m2 := hm2 ▸ ok_write k1 10 128 (by decide) (by decide)
  have k3 : okM m3 := hm3 ▸ ok_write k2 2 240 (by decide) (by decide)
  have k4 : okM m4 := hm4 ▸ ok_write k3 1 x (by omega) (by omega)
  have k5 : okM m5 := hm5 ▸ ok_write k4 4 192 (by decide) (by decide)
  have C1 := Lib.hid (fun W => write_c zeroM ok_zero 22 128 (by decide) (by decide) W)
  have C2 := Lib.hid (fun W => write_c m1 k1 10 128 (by decide) (by decide) W)
  have C3 := Lib.hid (fun W => write_c m2 k2 2 240 (by decide) (by decide) W)
  have C4 := Lib.hid (fun W => write_c m3 k3 1 x (by omega) (by omega) W)
  have C5 := Lib.hid (fun W => write_c m4 k4 4 192 (by decide) (by decide) W)
  rw [hm1] at C1
  rw [hm2] at C2
  rw [hm3] at C3
  rw [hm4] at C4
  rw [hm5] at C5
  obtain ⟨L, hL⟩ : ∃ L : Nat, (64 - x % 64) = (L : Int) := ⟨((64 - x % 64) : Int).toNat, by omega⟩
  have LB : 0 < L ∧ L ≤ 64 := by omega
  have e5 : m5 = lenM 0 x 192 := by rw [← hm5, ← hm4, ← hm3, ← hm2, ← hm1]; rfl
  have q5 := len_init 0 (by omega) x 192 1 (by decide) (by decide) (L : Int) (by rw [← hL]; rfl) (by omega)
  rw [← e5] at q5
  obtain ⟨q1, q2, q3, q4⟩ := q5
  have OI := Lib.hid (fun t => ok_it k5 t)
  obtain ⟨T, hT⟩ : ∃ q_, (2 * L - 1) = q_ := ⟨_, rfl⟩
  have TB : T ≤ 140 ∧ 0 < T := by omega
  have ON : ∀ j, j ≤ T → itN m5 (2048 * j) 51 = if j = T then 0 else 1 := fun j hj => by have := (cnt_down q1 (by omega) q2 q3 L LB.1 q4 j (by omega)).2.2.2; rw [hT] at this; exact this
  have SO := Lib.hid ON
  have HT := Lib.hid hT
  have i4 : (vn : Int) % 4 = 0 := by omega
  have i4t : (vn : Int).tmod 4 = 0 := by rw [Int.tmod_eq_emod_of_nonneg (by omega)]; exact i4
  clear hm1 hm2 hm3 hm4 hm5 k1 k2 k3 k4 k5 e5 q1 q2 q3 q4 ON hT hv
  have hz29 : ∀ w : World, (zeroValue 29).run Tryd.prog w = .ok (.agg (enc zeroM)) w := zero29
  have hnot : ∀ (x : Bool) (w : World), (Op.unary .not (.bool x)).run Tryd.prog w = .ok (.bool (!x)) w := fun _ _ => rfl
  go_enter Tryd.func4, Tryd.ntmps4
  go_wp2_with (fail)
  with_reducible refine (AW.out _ (HG.out.below N0.out BB.out)).mono ?_
  rintro q_ u1 ⟨rfl, hb⟩
  have B1 := Lib.hid (vian HN.out BB.out hb)
  clear hb 
  go_wp2_with (fail)
  with_reducible refine (C1.out _).mono ?_
  rintro q_ u2 ⟨rfl, hb⟩
  have B2 := Lib.hid (vian HN.out B1.out hb)
  clear hb B1
  go_wp2_with (fail)
  with_reducible refine (C2.out _).mono ?_
  rintro q_ u3 ⟨rfl, hb⟩
  have B3 := Lib.hid (vian HN.out B2.out hb)
  clear hb B2
  go_wp2_with (refine store_b (Has.new u3 (enc zeroM) 29) (m2) rfl _ _ rfl rfl rfl ?_)
  intro u4 hP hk
  have Q_ := own1 u3 (.cells (enc zeroM) 29)
  have LP := Lib.hid (show n_ ≤ u3.heap.size from Nat.le_trans HN.out B3.out.size)
  have B4 := Lib.hid (hk.below HN.out LP.out (vian HN.out B3.out Q_))
  have P4 := Lib.hid hP
  generalize u3.heap.size = pb at LP  P4 ⊢
  clear hk hP Q_ B3
  try simp only [Act.put, List.setIfInBounds_toArray, List.set_cons_zero, List.set_cons_succ]
  go_wp2_with (first | ((first | (refine load_b P4.out rfl _ rfl rfl ?_) | (refine load_bg P4.out rfl _ rfl rfl ?_)); simp only [Act.put, List.setIfInBounds_toArray, List.set_cons_zero, List.set_cons_succ]))
  with_reducible refine (C3.out _).mono ?_
  rintro q_ u5 ⟨rfl, hb⟩
  have B5 := Lib.hid (vian HN.out B4.out hb)
  have P5 := Lib.hid (P4.out.below hb)
  clear hb B4 P4
  go_wp2_with (fail)
  with_reducible refine (C4.out _).mono ?_
  rintro q_ u6 ⟨rfl, hb⟩
  have B6 := Lib.hid (vian HN.out B5.out hb)
  have P6 := Lib.hid (P5.out.below hb)
  clear hb B5 P5
  go_wp2_with (refine store_b P6.out (m4) rfl _ _ rfl rfl rfl ?_)
  intro u7 hP hk
  have P7 := Lib.hid hP
  have B7 := Lib.hid (hk.below HN.out LP.out B6.out)
  clear hk hP B6 P6
  try simp only [Act.put]
  go_wp2_with (first | ((first | (refine load_b P7.out rfl _ rfl rfl ?_) | (refine load_bg P7.out rfl _ rfl rfl ?_)); simp only [Act.put, List.setIfInBounds_toArray, List.set_cons_zero, List.set_cons_succ]))
  with_reducible refine (C5.out _).mono ?_
  rintro q_ u8 ⟨rfl, hb⟩
  have B8 := Lib.hid (vian HN.out B7.out hb)
  have P8 := Lib.hid (P7.out.below hb)
  clear hb B7 P7
  go_wp2_with (refine store_b P8.out (m5) rfl _ _ rfl rfl rfl ?_)
  intro u9 hP hk
  have P9 := Lib.hid hP
  have B9 := Lib.hid (hk.below HN.out LP.out B8.out)
  clear hk hP B8 P8
  try simp only [Act.put]
  go_upto_region 15 with (fail)
  go_loopg [11] T (fun g' i w5 => ∃ (j : Nat), j ≤ T ∧ g' + j = T ∧ i = .int .i64 j ∧ Below n_ W0 w5 ∧ Has w5 pb (enc (itN m5 (2048 * j))))
  case atStart => exact ⟨0, by omega, by omega, rfl, B9.out, P9.out⟩
  case round =>
    obtain ⟨u20, hw7⟩ : ∃ q_, q_ = wr := ⟨_, rfl⟩
    subst hw7
    obtain ⟨j, hj, hg, rfl, hB, hP⟩ := hrel
    have JG := Lib.hid hg
    have B20 := Lib.hid hB
    have P20 := Lib.hid hP
    clear hg hB hP B9 P9
    have hon := SO.out j hj
    have HJ := Lib.hid (fun s => itN_add m5 (2048 * j) s)
    have OJ := Lib.hid (fun s => ok_it (OI.out (2048 * j)) s)
    have HX := Lib.hid (itN_mul m5 2048 j)
    obtain ⟨mj, hmj⟩ : ∃ q_, itN m5 (2048 * j) = q_ := ⟨_, rfl⟩
    rw [hmj] at P20 hon OJ HX
    clear hmj HJ
    by_cases hlt : j < T
    · have d140 : decide ((j : Int) < 140) = true := by simp; omega
      rw [if_neg (by omega)] at hon
      have eo : (enc mj)[51]? = some (.bool true) := by rw [enc_b _ _ rfl (by omega), hon]; rfl
      obtain ⟨hc, hf⟩ := P20.out.out
      go_upto_region 17 with (fail)
      clear hc hf eo hon
      go_loopg [52] 2048 (fun g' i w5 => ∃ (s : Nat), s ≤ 2048 ∧ g' + s = 2048 ∧ i = .int .i64 s ∧ Below n_ W0 w5 ∧ Has w5 pb (enc (itN mj s)))
      case atStart => exact ⟨0, by omega, by omega, rfl, B20.out, P20.out⟩
      case round =>
        obtain ⟨u30, hw7⟩ : ∃ q_, q_ = wr := ⟨_, rfl⟩
        subst hw7
        obtain ⟨s, hs, hg, rfl, hB, hP⟩ := hrel
        have SG := Lib.hid hg
        have B30 := Lib.hid hB
        have P30 := Lib.hid hP
        clear hg hB hP B20 P20
        by_cases hls : s < 2048
        · have l2 : (s : Int) < 2048 := by omega
          have SC := Lib.hid (fun W => tick_c (itN mj s) (OJ.out s) W)
          obtain ⟨ma, hm1⟩ : ∃ q_, itN mj s = q_ := ⟨_, rfl⟩
          obtain ⟨mb, hm2⟩ : ∃ q_, itN mj (s + 1) = q_ := ⟨_, rfl⟩
          have hm3 : tickV (itN mj s) = mb := hm2
          rw [hm3] at SC
          rw [hm1] at SC P30
          have HM := Lib.hid hm2
          clear hm1 hm2 hm3
          go_wp2_with (first | ((first | (refine load_b P30.out rfl _ rfl rfl ?_) | (refine load_bg P30.out rfl _ rfl rfl ?_)); simp only [Act.put, List.setIfInBounds_toArray, List.set_cons_zero, List.set_cons_succ]))
          with_reducible refine (SC.out _).mono ?_
          rintro q_ u31 ⟨rfl, hb⟩
          have B31 := Lib.hid (vian HN.out B30.out hb)
          have P31 := Lib.hid (P30.out.below hb)
          clear hb B30 P30
          go_wp2_with (refine store_b P31.out (mb) rfl _ _ rfl rfl rfl ?_)
          intro u32 hP hk
          have P32 := Lib.hid hP
          have B32 := Lib.hid (hk.below HN.out LP.out B31.out)
          clear hk hP B31 P31
          try simp only [Act.put]
          go_wp2
          go_roundg (2048 - (s + 1))
          case measure => have := SG.out; omega
          case rel => exact ⟨s + 1, by omega, by have := SG.out; omega, by simp, B32.out, by rw [HM.out]; exact P32.out⟩
        · have te : s = 2048 := by omega
          subst te
          have l2 : ¬ ((2048 : Nat) : Int) < 2048 := by omega
          go_wp2
          go_roundg (T - (j + 1))
          case measure => have := JG.out; omega
          case rel => exact ⟨j + 1, by omega, by have := JG.out; omega, by simp, B30.out, by rw [HX.out]; exact P30.out⟩
    · have te : j = T := by omega
      subst te
      have jT := HT.out
      rw [if_pos rfl] at hon
      have eo : (enc mj)[51]? = some (.bool false) := by rw [enc_b _ _ rfl (by omega), hon]; rfl
      have tv : 2 * (L : Int) - 1 = (j : Int) := by omega
      have cmp : ((j : Int) == 2 * (L : Int) - 1) = true := by simp; omega
      clear hon jT
      obtain ⟨hc, hf⟩ := P20.out.out
      go_wp2
      all_goals exact bodyPost_ret (v := .bool true) (by simp [results, Tryd.results4, go_sem]) rfl ⟨rfl, B20.out⟩
set_option maxHeartbeats 8000000 in
theorem lengths_00 (vn : Nat) (x : Int) (hv : vn % 4 = 0) (hv2 : vn < 256) (g0 : 0 ≤ x) (g1 : x < 256) (w : World) (hg : Glob w) : Calls Tryd.prog 4 #[.int .u8 vn, .int .u8 x, .bool false] w fun q_ w' => q_ = .returned (.bool true) ∧ Below w.heap.size w w' := by
  suffices hall : ∀ (n_ : Nat) (W0 : World), n_ ≤ W0.heap.size → Below n_ W0 w → Glob W0 → 0 < n_ → Calls Tryd.prog 4 #[.int .u8 vn, .int .u8 x, .bool false] w fun q_ w' => q_ = .returned (.bool true) ∧ Below n_ W0 w' from hall _ _ (Nat.le_refl _) (Below.refl _ _) hg hg.1
  clear hg
  intro n_ W0 hn hB hG hn0
  have HN := Lib.hid hn
  have BB := Lib.hid hB
  have HG := Lib.hid hG
  have N0 := Lib.hid hn0
  clear hn hB hG hn0
  have AW := Lib.hid awake_c
  obtain ⟨m1, hm1⟩ : ∃ q_, writeV zeroM 22 128 = q_ := ⟨_, rfl⟩
  obtain ⟨m2, hm2⟩ : ∃ q_, writeV m1 10 128 = q_ := ⟨_, rfl⟩
  obtain ⟨m3, hm3⟩ : ∃ q_, writeV m2 2 240 = q_ := ⟨_, rfl⟩
  obtain ⟨m4, hm4⟩ : ∃ q_, writeV m3 1 x = q_ := ⟨_, rfl⟩
  obtain ⟨m5, hm5⟩ : ∃ q_, writeV m4 4 128 = q_ := ⟨_, rfl⟩
  have k1 : okM m1 := hm1 ▸ ok_write ok_zero 22 128 (by decide) (by decide)
  have k2 : okM m2 := hm2 ▸ ok_write k1 10 128 (by decide) (by decide)
  have k3 : okM m3 := hm3 ▸ ok_write k2 2 240 (by decide) (by decide)
  have k4 : okM m4 := hm4 ▸ ok_write k3 1 x (by omega) (by omega)
  have k5 : okM m5 := hm5 ▸ ok_write k4 4 128 (by decide) (by decide)
  have C1 := Lib.hid (fun W => write_c zeroM ok_zero 22 128 (by decide) (by decide) W)
  have C2 := Lib.hid (fun W => write_c m1 k1 10 128 (by decide) (by decide) W)
  have C3 := Lib.hid (fun W => write_c m2 k2 2 240 (by decide) (by decide) W)
  have C4 := Lib.hid (fun W => write_c m3 k3 1 x (by omega) (by omega) W)
  have C5 := Lib.hid (fun W => write_c m4 k4 4 128 (by decide) (by decide) W)
  rw [hm1] at C1
  rw [hm2] at C2
  rw [hm3] at C3
  rw [hm4] at C4
  rw [hm5] at C5
  obtain ⟨L, hL⟩ : ∃ L : Nat, (64 - x % 64) = (L : Int) := ⟨((64 - x % 64) : Int).toNat, by omega⟩
  have LB : 0 < L ∧ L ≤ 64 := by omega
  have e5 : m5 = lenM 0 x 128 := by rw [← hm5, ← hm4, ← hm3, ← hm2, ← hm1]; rfl
  have q5 := len_init 0 (by omega) x 128 0 (by decide) (by decide) (L : Int) (by rw [← hL]; rfl) (by omega)
  rw [← e5] at q5
  obtain ⟨q1, q2, q3, q4⟩ := q5
  have OI := Lib.hid (fun t => ok_it k5 t)
  obtain ⟨T, hT⟩ : ∃ q_, 140 = q_ := ⟨_, rfl⟩
  have TB : T ≤ 140 ∧ 0 < T := by omega
  have ON : ∀ j, j ≤ T → itN m5 (2048 * j) 51 = 1 := fun j hj => (cnt_free q1 (by omega) q2 q3 j).2.2
  have SO := Lib.hid ON
  have HT := Lib.hid hT
  have i4 : (vn : Int) % 4 = 0 := by omega
  have i4t : (vn : Int).tmod 4 = 0 := by rw [Int.tmod_eq_emod_of_nonneg (by omega)]; exact i4
  clear hm1 hm2 hm3 hm4 hm5 k1 k2 k3 k4 k5 e5 q1 q2 q3 q4 ON hT hv
  have hz29 : ∀ w : World, (zeroValue 29).run Tryd.prog w = .ok (.agg (enc zeroM)) w := zero29
  have hnot : ∀ (x : Bool) (w : World), (Op.unary .not (.bool x)).run Tryd.prog w = .ok (.bool (!x)) w := fun _ _ => rfl
  go_enter Tryd.func4, Tryd.ntmps4
  go_wp2_with (fail)
  with_reducible refine (AW.out _ (HG.out.below N0.out BB.out)).mono ?_
  rintro q_ u1 ⟨rfl, hb⟩
  have B1 := Lib.hid (vian HN.out BB.out hb)
  clear hb 
  go_wp2_with (fail)
  with_reducible refine (C1.out _).mono ?_
  rintro q_ u2 ⟨rfl, hb⟩
  have B2 := Lib.hid (vian HN.out B1.out hb)
  clear hb B1
  go_wp2_with (fail)
  with_reducible refine (C2.out _).mono ?_
  rintro q_ u3 ⟨rfl, hb⟩
  have B3 := Lib.hid (vian HN.out B2.out hb)
  clear hb B2
  go_wp2_with (refine store_b (Has.new u3 (enc zeroM) 29) (m2) rfl _ _ rfl rfl rfl ?_)
  intro u4 hP hk
  have Q_ := own1 u3 (.cells (enc zeroM) 29)
  have LP := Lib.hid (show n_ ≤ u3.heap.size from Nat.le_trans HN.out B3.out.size)
  have B4 := Lib.hid (hk.below HN.out LP.out (vian HN.out B3.out Q_))
  have P4 := Lib.hid hP
  generalize u3.heap.size = pb at LP  P4 ⊢
  clear hk hP Q_ B3
  try simp only [Act.put, List.setIfInBounds_toArray, List.set_cons_zero, List.set_cons_succ]
  go_wp2_with (first | ((first | (refine load_b P4.out rfl _ rfl rfl ?_) | (refine load_bg P4.out rfl _ rfl rfl ?_)); simp only [Act.put, List.setIfInBounds_toArray, List.set_cons_zero, List.set_cons_succ]))
  with_reducible refine (C3.out _).mono ?_
  rintro q_ u5 ⟨rfl, hb⟩
  have B5 := Lib.hid (vian HN.out B4.out hb)
  have P5 := Lib.hid (P4.out.below hb)
  clear hb B4 P4
  go_wp2_with (fail)
  with_reducible refine (C4.out _).mono ?_
  rintro q_ u6 ⟨rfl, hb⟩
  have B6 := Lib.hid (vian HN.out B5.out hb)
  have P6 := Lib.hid (P5.out.below hb)
  clear hb B5 P5
  go_wp2_with (refine store_b P6.out (m4) rfl _ _ rfl rfl rfl ?_)
  intro u7 hP hk
  have P7 := Lib.hid hP
  have B7 := Lib.hid (hk.below HN.out LP.out B6.out)
  clear hk hP B6 P6
  try simp only [Act.put]
  go_wp2_with (first | ((first | (refine load_b P7.out rfl _ rfl rfl ?_) | (refine load_bg P7.out rfl _ rfl rfl ?_)); simp only [Act.put, List.setIfInBounds_toArray, List.set_cons_zero, List.set_cons_succ]))
  with_reducible refine (C5.out _).mono ?_
  rintro q_ u8 ⟨rfl, hb⟩
  have B8 := Lib.hid (vian HN.out B7.out hb)
  have P8 := Lib.hid (P7.out.below hb)
  clear hb B7 P7
  go_wp2_with (refine store_b P8.out (m5) rfl _ _ rfl rfl rfl ?_)
  intro u9 hP hk
  have P9 := Lib.hid hP
  have B9 := Lib.hid (hk.below HN.out LP.out B8.out)
  clear hk hP B8 P8
  try simp only [Act.put]
  go_upto_region 15 with (fail)
  go_loopg [11] T (fun g' i w5 => ∃ (j : Nat), j ≤ T ∧ g' + j = T ∧ i = .int .i64 j ∧ Below n_ W0 w5 ∧ Has w5 pb (enc (itN m5 (2048 * j))))
  case atStart => exact ⟨0, by omega, by omega, rfl, B9.out, P9.out⟩
  case round =>
    obtain ⟨u20, hw7⟩ : ∃ q_, q_ = wr := ⟨_, rfl⟩
    subst hw7
    obtain ⟨j, hj, hg, rfl, hB, hP⟩ := hrel
    have JG := Lib.hid hg
    have B20 := Lib.hid hB
    have P20 := Lib.hid hP
    clear hg hB hP B9 P9
    have hon := SO.out j hj
    have HJ := Lib.hid (fun s => itN_add m5 (2048 * j) s)
    have OJ := Lib.hid (fun s => ok_it (OI.out (2048 * j)) s)
    have HX := Lib.hid (itN_mul m5 2048 j)
    obtain ⟨mj, hmj⟩ : ∃ q_, itN m5 (2048 * j) = q_ := ⟨_, rfl⟩
    rw [hmj] at P20 hon OJ HX
    clear hmj HJ
    by_cases hlt : j < T
    · have d140 : decide ((j : Int) < 140) = true := by simp; omega
      have eo : (enc mj)[51]? = some (.bool true) := by rw [enc_b _ _ rfl (by omega), hon]; rfl
      obtain ⟨hc, hf⟩ := P20.out.out
      go_upto_region 17 with (fail)
      clear hc hf eo hon
      go_loopg [52] 2048 (fun g' i w5 => ∃ (s : Nat), s ≤ 2048 ∧ g' + s = 2048 ∧ i = .int .i64 s ∧ Below n_ W0 w5 ∧ Has w5 pb (enc (itN mj s)))
      case atStart => exact ⟨0, by omega, by omega, rfl, B20.out, P20.out⟩
      case round =>
        obtain ⟨u30, hw7⟩ : ∃ q_, q_ = wr := ⟨_, rfl⟩
        subst hw7
        obtain ⟨s, hs, hg, rfl, hB, hP⟩ := hrel
        have SG := Lib.hid hg
        have B30 := Lib.hid hB
        have P30 := Lib.hid hP
        clear hg hB hP B20 P20
        by_cases hls : s < 2048
        · have l2 : (s : Int) < 2048 := by omega
          have SC := Lib.hid (fun W => tick_c (itN mj s) (OJ.out s) W)
          obtain ⟨ma, hm1⟩ : ∃ q_, itN mj s = q_ := ⟨_, rfl⟩
          obtain ⟨mb, hm2⟩ : ∃ q_, itN mj (s + 1) = q_ := ⟨_, rfl⟩
          have hm3 : tickV (itN mj s) = mb := hm2
          rw [hm3] at SC
          rw [hm1] at SC P30
          have HM := Lib.hid hm2
          clear hm1 hm2 hm3
          go_wp2_with (first | ((first | (refine load_b P30.out rfl _ rfl rfl ?_) | (refine load_bg P30.out rfl _ rfl rfl ?_)); simp only [Act.put, List.setIfInBounds_toArray, List.set_cons_zero, List.set_cons_succ]))
          with_reducible refine (SC.out _).mono ?_
          rintro q_ u31 ⟨rfl, hb⟩
          have B31 := Lib.hid (vian HN.out B30.out hb)
          have P31 := Lib.hid (P30.out.below hb)
          clear hb B30 P30
          go_wp2_with (refine store_b P31.out (mb) rfl _ _ rfl rfl rfl ?_)
          intro u32 hP hk
          have P32 := Lib.hid hP
          have B32 := Lib.hid (hk.below HN.out LP.out B31.out)
          clear hk hP B31 P31
          try simp only [Act.put]
          go_wp2
          go_roundg (2048 - (s + 1))
          case measure => have := SG.out; omega
          case rel => exact ⟨s + 1, by omega, by have := SG.out; omega, by simp, B32.out, by rw [HM.out]; exact P32.out⟩
        · have te : s = 2048 := by omega
          subst te
          have l2 : ¬ ((2048 : Nat) : Int) < 2048 := by omega
          go_wp2
          go_roundg (T - (j + 1))
          case measure => have := JG.out; omega
          case rel => exact ⟨j + 1, by omega, by have := JG.out; omega, by simp, B30.out, by rw [HX.out]; exact P30.out⟩
    · have te : j = T := by omega
      subst te
      have jT := HT.out
      have eo : (enc mj)[51]? = some (.bool true) := by rw [enc_b _ _ rfl (by omega), hon]; rfl
      have d140 : decide ((j : Int) < 140) = false := by simp; omega
      have cmp : ((j : Int) == 140) = true := by simp; omega
      clear hon jT
      obtain ⟨hc, hf⟩ := P20.out.out
      go_wp2
      all_goals exact bodyPost_ret (v := .bool true) (by simp [results, Tryd.results4, go_sem]) rfl ⟨rfl, B20.out⟩
set_option maxHeartbeats 8000000 in
theorem lengths_11 (vn : Nat) (x : Int) (hv : vn % 4 = 1) (hv2 : vn < 256) (g0 : 0 ≤ x) (g1 : x < 256) (w : World) (hg : Glob w) : Calls Tryd.prog 4 #[.int .u8 vn, .int .u8 x, .bool true] w fun q_ w' => q_ = .returned (.bool true) ∧ Below w.heap.size w w' := by
  suffices hall : ∀ (n_ : Nat) (W0 : World), n_ ≤ W0.heap.size → Below n_ W0 w → Glob W0 → 0 < n_ → Calls Tryd.prog 4 #[.int .u8 vn, .int .u8 x, .bool true] w fun q_ w' => q_ = .returned (.bool true) ∧ Below n_ W0 w' from hall _ _ (Nat.le_refl _) (Below.refl _ _) hg hg.1
  clear hg
  intro n_ W0 hn hB hG hn0
  have HN := Lib.hid hn
  have BB := Lib.hid hB
  have HG := Lib.hid hG
  have N0 := Lib.hid hn0
  clear hn hB hG hn0
  have AW := Lib.hid awake_c
  obtain ⟨m1, hm1⟩ : ∃ q_, writeV zeroM 22 128 = q_ := ⟨_, rfl⟩
  obtain ⟨m2, hm2⟩ : ∃ q_, writeV m1 10 128 = q_ := ⟨_, rfl⟩
  obtain ⟨m3, hm3⟩ : ∃ q_, writeV m2 7 240 = q_ := ⟨_, rfl⟩
  obtain ⟨m4, hm4⟩ : ∃ q_, writeV m3 6 x = q_ := ⟨_, rfl⟩
  obtain ⟨m5, hm5⟩ : ∃ q_, writeV m4 9 192 = q_ := ⟨_, rfl⟩
  have k1 : okM m1 := hm1 ▸ ok_write ok_zero 22 128 (by decide) (by decide)
  have k2 : okM m2 := hm2 ▸ ok_write k1 10 128 (by decide) (by decide)
  have k3 : okM m3 := hm3 ▸ ok_write k2 7 240 (by decide) (by decide)
  have k4 : okM m4 := hm4 ▸ ok_write k3 6 x (by omega) (by omega)
  have k5 : okM m5 := hm5 ▸ ok_write k4 9 192 (by decide) (by decide)
  have C1 := Lib.hid (fun W => write_c zeroM ok_zero 22 128 (by decide) (by decide) W)
  have C2 := Lib.hid (fun W => write_c m1 k1 10 128 (by decide) (by decide) W)
  have C3 := Lib.hid (fun W => write_c m2 k2 7 240 (by decide) (by decide) W)
  have C4 := Lib.hid (fun W => write_c m3 k3 6 x (by omega) (by omega) W)
  have C5 := Lib.hid (fun W => write_c m4 k4 9 192 (by decide) (by decide) W)
  rw [hm1] at C1
  rw [hm2] at C2
  rw [hm3] at C3
  rw [hm4] at C4
  rw [hm5] at C5
  obtain ⟨L, hL⟩ : ∃ L : Nat, (64 - x % 64) = (L : Int) := ⟨((64 - x % 64) : Int).toNat, by omega⟩
  have LB : 0 < L ∧ L ≤ 64 := by omega
  have e5 : m5 = lenM 1 x 192 := by rw [← hm5, ← hm4, ← hm3, ← hm2, ← hm1]; rfl
  have q5 := len_init 1 (by omega) x 192 1 (by decide) (by decide) (L : Int) (by rw [← hL]; rfl) (by omega)
  rw [← e5] at q5
  obtain ⟨q1, q2, q3, q4⟩ := q5
  have OI := Lib.hid (fun t => ok_it k5 t)
  obtain ⟨T, hT⟩ : ∃ q_, (2 * L - 1) = q_ := ⟨_, rfl⟩
  have TB : T ≤ 140 ∧ 0 < T := by omega
  have ON : ∀ j, j ≤ T → itN m5 (2048 * j) 55 = if j = T then 0 else 1 := fun j hj => by have := (cnt_down q1 (by omega) q2 q3 L LB.1 q4 j (by omega)).2.2.2; rw [hT] at this; exact this
  have SO := Lib.hid ON
  have HT := Lib.hid hT
  have i4 : (vn : Int) % 4 = 1 := by omega
  have i4t : (vn : Int).tmod 4 = 1 := by rw [Int.tmod_eq_emod_of_nonneg (by omega)]; exact i4
  clear hm1 hm2 hm3 hm4 hm5 k1 k2 k3 k4 k5 e5 q1 q2 q3 q4 ON hT hv
  have hz29 : ∀ w : World, (zeroValue 29).run Tryd.prog w = .ok (.agg (enc zeroM)) w := zero29
  have hnot : ∀ (x : Bool) (w : World), (Op.unary .not (.bool x)).run Tryd.prog w = .ok (.bool (!x)) w := fun _ _ => rfl
  go_enter Tryd.func4, Tryd.ntmps4
  go_wp2_with (fail)
  with_reducible refine (AW.out _ (HG.out.below N0.out BB.out)).mono ?_
  rintro q_ u1 ⟨rfl, hb⟩
  have B1 := Lib.hid (vian HN.out BB.out hb)
  clear hb 
  go_wp2_with (fail)
  with_reducible refine (C1.out _).mono ?_
  rintro q_ u2 ⟨rfl, hb⟩
  have B2 := Lib.hid (vian HN.out B1.out hb)
  clear hb B1
  go_wp2_with (fail)
  with_reducible refine (C2.out _).mono ?_
  rintro q_ u3 ⟨rfl, hb⟩
  have B3 := Lib.hid (vian HN.out B2.out hb)
  clear hb B2
  go_wp2_with (refine store_b (Has.new u3 (enc zeroM) 29) (m2) rfl _ _ rfl rfl rfl ?_)
  intro u4 hP hk
  have Q_ := own1 u3 (.cells (enc zeroM) 29)
  have LP := Lib.hid (show n_ ≤ u3.heap.size from Nat.le_trans HN.out B3.out.size)
  have B4 := Lib.hid (hk.below HN.out LP.out (vian HN.out B3.out Q_))
  have P4 := Lib.hid hP
  generalize u3.heap.size = pb at LP  P4 ⊢
  clear hk hP Q_ B3
  try simp only [Act.put, List.setIfInBounds_toArray, List.set_cons_zero, List.set_cons_succ]
  go_wp2_with (first | ((first | (refine load_b P4.out rfl _ rfl rfl ?_) | (refine load_bg P4.out rfl _ rfl rfl ?_)); simp only [Act.put, List.setIfInBounds_toArray, List.set_cons_zero, List.set_cons_succ]))
  with_reducible refine (C3.out _).mono ?_
  rintro q_ u5 ⟨rfl, hb⟩
  have B5 := Lib.hid (vian HN.out B4.out hb)
  have P5 := Lib.hid (P4.out.below hb)
  clear hb B4 P4
  go_wp2_with (fail)
  with_reducible refine (C4.out _).mono ?_
  rintro q_ u6 ⟨rfl, hb⟩
  have B6 := Lib.hid (vian HN.out B5.out hb)
  have P6 := Lib.hid (P5.out.below hb)
  clear hb B5 P5
  go_wp2_with (refine store_b P6.out (m4) rfl _ _ rfl rfl rfl ?_)
  intro u7 hP hk
  have P7 := Lib.hid hP
  have B7 := Lib.hid (hk.below HN.out LP.out B6.out)
  clear hk hP B6 P6
  try simp only [Act.put]
  go_wp2_with (first | ((first | (refine load_b P7.out rfl _ rfl rfl ?_) | (refine load_bg P7.out rfl _ rfl rfl ?_)); simp only [Act.put, List.setIfInBounds_toArray, List.set_cons_zero, List.set_cons_succ]))
  with_reducible refine (C5.out _).mono ?_
  rintro q_ u8 ⟨rfl, hb⟩
  have B8 := Lib.hid (vian HN.out B7.out hb)
  have P8 := Lib.hid (P7.out.below hb)
  clear hb B7 P7
  go_wp2_with (refine store_b P8.out (m5) rfl _ _ rfl rfl rfl ?_)
  intro u9 hP hk
  have P9 := Lib.hid hP
  have B9 := Lib.hid (hk.below HN.out LP.out B8.out)
  clear hk hP B8 P8
  try simp only [Act.put]
  go_upto_region 15 with (fail)
  go_loopg [11] T (fun g' i w5 => ∃ (j : Nat), j ≤ T ∧ g' + j = T ∧ i = .int .i64 j ∧ Below n_ W0 w5 ∧ Has w5 pb (enc (itN m5 (2048 * j))))
  case atStart => exact ⟨0, by omega, by omega, rfl, B9.out, P9.out⟩
  case round =>
    obtain ⟨u20, hw7⟩ : ∃ q_, q_ = wr := ⟨_, rfl⟩
    subst hw7
    obtain ⟨j, hj, hg, rfl, hB, hP⟩ := hrel
    have JG := Lib.hid hg
    have B20 := Lib.hid hB
    have P20 := Lib.hid hP
    clear hg hB hP B9 P9
    have hon := SO.out j hj
    have HJ := Lib.hid (fun s => itN_add m5 (2048 * j) s)
    have OJ := Lib.hid (fun s => ok_it (OI.out (2048 * j)) s)
    have HX := Lib.hid (itN_mul m5 2048 j)
    obtain ⟨mj, hmj⟩ : ∃ q_, itN m5 (2048 * j) = q_ := ⟨_, rfl⟩
    rw [hmj] at P20 hon OJ HX
    clear hmj HJ
    by_cases hlt : j < T
    · have d140 : decide ((j : Int) < 140) = true := by simp; omega
      rw [if_neg (by omega)] at hon
      have eo : (enc mj)[55]? = some (.bool true) := by rw [enc_b _ _ rfl (by omega), hon]; rfl
      obtain ⟨hc, hf⟩ := P20.out.out
      go_upto_region 17 with (fail)
      clear hc hf eo hon
      go_loopg [52] 2048 (fun g' i w5 => ∃ (s : Nat), s ≤ 2048 ∧ g' + s = 2048 ∧ i = .int .i64 s ∧ Below n_ W0 w5 ∧ Has w5 pb (enc (itN mj s)))
      case atStart => exact ⟨0, by omega, by omega, rfl, B20.out, P20.out⟩
      case round =>
        obtain ⟨u30, hw7⟩ : ∃ q_, q_ = wr := ⟨_, rfl⟩
        subst hw7
        obtain ⟨s, hs, hg, rfl, hB, hP⟩ := hrel
        have SG := Lib.hid hg
        have B30 := Lib.hid hB
        have P30 := Lib.hid hP
        clear hg hB hP B20 P20
        by_cases hls : s < 2048
        · have l2 : (s : Int) < 2048 := by omega
          have SC := Lib.hid (fun W => tick_c (itN mj s) (OJ.out s) W)
          obtain ⟨ma, hm1⟩ : ∃ q_, itN mj s = q_ := ⟨_, rfl⟩
          obtain ⟨mb, hm2⟩ : ∃ q_, itN mj (s + 1) = q_ := ⟨_, rfl⟩
          have hm3 : tickV (itN mj s) = mb := hm2
          rw [hm3] at SC
          rw [hm1] at SC P30
          have HM := Lib.hid hm2
          clear hm1 hm2 hm3
          go_wp2_with (first | ((first | (refine load_b P30.out rfl _ rfl rfl ?_) | (refine load_bg P30.out rfl _ rfl rfl ?_)); simp only [Act.put, List.setIfInBounds_toArray, List.set_cons_zero, List.set_cons_succ]))
          with_reducible refine (SC.out _).mono ?_
          rintro q_ u31 ⟨rfl, hb⟩
          have B31 := Lib.hid (vian HN.out B30.out hb)
          have P31 := Lib.hid (P30.out.below hb)
          clear hb B30 P30
          go_wp2_with (refine store_b P31.out (mb) rfl _ _ rfl rfl rfl ?_)
          intro u32 hP hk
          have P32 := Lib.hid hP
          have B32 := Lib.hid (hk.below HN.out LP.out B31.out)
          clear hk hP B31 P31
          try simp only [Act.put]
          go_wp2
          go_roundg (2048 - (s + 1))
          case measure => have := SG.out; omega
          case rel => exact ⟨s + 1, by omega, by have := SG.out; omega, by simp, B32.out, by rw [HM.out]; exact P32.out⟩
        · have te : s = 2048 := by omega
          subst te
          have l2 : ¬ ((2048 : Nat) : Int) < 2048 := by omega
          go_wp2
          go_roundg (T - (j + 1))
          case measure => have := JG.out; omega
          case rel => exact ⟨j + 1, by omega, by have := JG.out; omega, by simp, B30.out, by rw [HX.out]; exact P30.out⟩
    · have te : j = T := by omega
      subst te
      have jT := HT.out
      rw [if_pos rfl] at hon
      have eo : (enc mj)[55]? = some (.bool false) := by rw [enc_b _ _ rfl (by omega), hon]; rfl
      have tv : 2 * (L : Int) - 1 = (j : Int) := by omega
      have cmp : ((j : Int) == 2 * (L : Int) - 1) = true := by simp; omega
      clear hon jT
      obtain ⟨hc, hf⟩ := P20.out.out
      go_wp2
      all_goals exact bodyPost_ret (v := .bool true) (by simp [results, Tryd.results4, go_sem]) rfl ⟨rfl, B20.out⟩
set_option maxHeartbeats 8000000 in
theorem lengths_10 (vn : Nat) (x : Int) (hv : vn % 4 = 1) (hv2 : vn < 256) (g0 : 0 ≤ x) (g1 : x < 256) (w : World) (hg : Glob w) : Calls Tryd.prog 4 #[.int .u8 vn, .int .u8 x, .bool false] w fun q_ w' => q_ = .returned (.bool true) ∧ Below w.heap.size w w' := by
  suffices hall : ∀ (n_ : Nat) (W0 : World), n_ ≤ W0.heap.size → Below n_ W0 w → Glob W0 → 0 < n_ → Calls Tryd.prog 4 #[.int .u8 vn, .int .u8 x, .bool false] w fun q_ w' => q_ = .returned (.bool true) ∧ Below n_ W0 w' from hall _ _ (Nat.le_refl _) (Below.refl _ _) hg hg.1
  clear hg
  intro n_ W0 hn hB hG hn0
  have HN := Lib.hid hn
  have BB := Lib.hid hB
  have HG := Lib.hid hG
  have N0 := Lib.hid hn0
  clear hn hB hG hn0
  have AW := Lib.hid awake_c
  obtain ⟨m1, hm1⟩ : ∃ q_, writeV zeroM 22 128 = q_ := ⟨_, rfl⟩
  obtain ⟨m2, hm2⟩ : ∃ q_, writeV m1 10 128 = q_ := ⟨_, rfl⟩
  obtain ⟨m3, hm3⟩ : ∃ q_, writeV m2 7 240 = q_ := ⟨_, rfl⟩
  obtain ⟨m4, hm4⟩ : ∃ q_, writeV m3 6 x = q_ := ⟨_, rfl⟩
  obtain ⟨m5, hm5⟩ : ∃ q_, writeV m4 9 128 = q_ := ⟨_, rfl⟩
  have k1 : okM m1 := hm1 ▸ ok_write ok_zero 22 128 (by decide) (by decide)
  have k2 : okM m2 := hm2 ▸ ok_write k1 10 128 (by decide) (by decide)
  have k3 : okM m3 := hm3 ▸ ok_write k2 7 240 (by decide) (by decide)
  have k4 : okM m4 := hm4 ▸ ok_write k3 6 x (by omega) (by omega)
  have k5 : okM m5 := hm5 ▸ ok_write k4 9 128 (by decide) (by decide)
  have C1 := Lib.hid (fun W => write_c zeroM ok_zero 22 128 (by decide) (by decide) W)
  have C2 := Lib.hid (fun W => write_c m1 k1 10 128 (by decide) (by decide) W)
  have C3 := Lib.hid (fun W => write_c m2 k2 7 240 (by decide) (by decide) W)
  have C4 := Lib.hid (fun W => write_c m3 k3 6 x (by omega) (by omega) W)
  have C5 := Lib.hid (fun W => write_c m4 k4 9 128 (by decide) (by decide) W)
  rw [hm1] at C1
  rw [hm2] at C2
  rw [hm3] at C3
  rw [hm4] at C4
  rw [hm5] at C5
  obtain ⟨L, hL⟩ : ∃ L : Nat, (64 - x % 64) = (L : Int) := ⟨((64 - x % 64) : Int).toNat, by omega⟩
  have LB : 0 < L ∧ L ≤ 64 := by omega
  have e5 : m5 = lenM 1 x 128 := by rw [← hm5, ← hm4, ← hm3, ← hm2, ← hm1]; rfl
  have q5 := len_init 1 (by omega) x 128 0 (by decide) (by decide) (L : Int) (by rw [← hL]; rfl) (by omega)
  rw [← e5] at q5
  obtain ⟨q1, q2, q3, q4⟩ := q5
  have OI := Lib.hid (fun t => ok_it k5 t)
  obtain ⟨T, hT⟩ : ∃ q_, 140 = q_ := ⟨_, rfl⟩
  have TB : T ≤ 140 ∧ 0 < T := by omega
  have ON : ∀ j, j ≤ T → itN m5 (2048 * j) 55 = 1 := fun j hj => (cnt_free q1 (by omega) q2 q3 j).2.2
  have SO := Lib.hid ON
  have HT := Lib.hid hT
  have i4 : (vn : Int) % 4 = 1 := by omega
  have i4t : (vn : Int).tmod 4 = 1 := by rw [Int.tmod_eq_emod_of_nonneg (by omega)]; exact i4
  clear hm1 hm2 hm3 hm4 hm5 k1 k2 k3 k4 k5 e5 q1 q2 q3 q4 ON hT hv
  have hz29 : ∀ w : World, (zeroValue 29).run Tryd.prog w = .ok (.agg (enc zeroM)) w := zero29
  have hnot : ∀ (x : Bool) (w : World), (Op.unary .not (.bool x)).run Tryd.prog w = .ok (.bool (!x)) w := fun _ _ => rfl
  go_enter Tryd.func4, Tryd.ntmps4
  go_wp2_with (fail)
  with_reducible refine (AW.out _ (HG.out.below N0.out BB.out)).mono ?_
  rintro q_ u1 ⟨rfl, hb⟩
  have B1 := Lib.hid (vian HN.out BB.out hb)
  clear hb 
  go_wp2_with (fail)
  with_reducible refine (C1.out _).mono ?_
  rintro q_ u2 ⟨rfl, hb⟩
  have B2 := Lib.hid (vian HN.out B1.out hb)
  clear hb B1
  go_wp2_with (fail)
  with_reducible refine (C2.out _).mono ?_
  rintro q_ u3 ⟨rfl, hb⟩
  have B3 := Lib.hid (vian HN.out B2.out hb)
  clear hb B2
  go_wp2_with (refine store_b (Has.new u3 (enc zeroM) 29) (m2) rfl _ _ rfl rfl rfl ?_)
  intro u4 hP hk
  have Q_ := own1 u3 (.cells (enc zeroM) 29)
  have LP := Lib.hid (show n_ ≤ u3.heap.size from Nat.le_trans HN.out B3.out.size)
  have B4 := Lib.hid (hk.below HN.out LP.out (vian HN.out B3.out Q_))
  have P4 := Lib.hid hP
  generalize u3.heap.size = pb at LP  P4 ⊢
  clear hk hP Q_ B3
  try simp only [Act.put, List.setIfInBounds_toArray, List.set_cons_zero, List.set_cons_succ]
  go_wp2_with (first | ((first | (refine load_b P4.out rfl _ rfl rfl ?_) | (refine load_bg P4.out rfl _ rfl rfl ?_)); simp only [Act.put, List.setIfInBounds_toArray, List.set_cons_zero, List.set_cons_succ]))
  with_reducible refine (C3.out _).mono ?_
  rintro q_ u5 ⟨rfl, hb⟩
  have B5 := Lib.hid (vian HN.out B4.out hb)
  have P5 := Lib.hid (P4.out.below hb)
  clear hb B4 P4
  go_wp2_with (fail)
  with_reducible refine (C4.out _).mono ?_
  rintro q_ u6 ⟨rfl, hb⟩
  have B6 := Lib.hid (vian HN.out B5.out hb)
  have P6 := Lib.hid (P5.out.below hb)
  clear hb B5 P5
  go_wp2_with (refine store_b P6.out (m4) rfl _ _ rfl rfl rfl ?_)
  intro u7 hP hk
  have P7 := Lib.hid hP
  have B7 := Lib.hid (hk.below HN.out LP.out B6.out)
  clear hk hP B6 P6
  try simp only [Act.put]
  go_wp2_with (first | ((first | (refine load_b P7.out rfl _ rfl rfl ?_) | (refine load_bg P7.out rfl _ rfl rfl ?_)); simp only [Act.put, List.setIfInBounds_toArray, List.set_cons_zero, List.set_cons_succ]))
  with_reducible refine (C5.out _).mono ?_
  rintro q_ u8 ⟨rfl, hb⟩
  have B8 := Lib.hid (vian HN.out B7.out hb)
  have P8 := Lib.hid (P7.out.below hb)
  clear hb B7 P7
  go_wp2_with (refine store_b P8.out (m5) rfl _ _ rfl rfl rfl ?_)
  intro u9 hP hk
  have P9 := Lib.hid hP
  have B9 := Lib.hid (hk.below HN.out LP.out B8.out)
  clear hk hP B8 P8
  try simp only [Act.put]
  go_upto_region 15 with (fail)
  go_loopg [11] T (fun g' i w5 => ∃ (j : Nat), j ≤ T ∧ g' + j = T ∧ i = .int .i64 j ∧ Below n_ W0 w5 ∧ Has w5 pb (enc (itN m5 (2048 * j))))
  case atStart => exact ⟨0, by omega, by omega, rfl, B9.out, P9.out⟩
  case round =>
    obtain ⟨u20, hw7⟩ : ∃ q_, q_ = wr := ⟨_, rfl⟩
    subst hw7
    obtain ⟨j, hj, hg, rfl, hB, hP⟩ := hrel
    have JG := Lib.hid hg
    have B20 := Lib.hid hB
    have P20 := Lib.hid hP
    clear hg hB hP B9 P9
    have hon := SO.out j hj
    have HJ := Lib.hid (fun s => itN_add m5 (2048 * j) s)
    have OJ := Lib.hid (fun s => ok_it (OI.out (2048 * j)) s)
    have HX := Lib.hid (itN_mul m5 2048 j)
    obtain ⟨mj, hmj⟩ : ∃ q_, itN m5 (2048 * j) = q_ := ⟨_, rfl⟩
    rw [hmj] at P20 hon OJ HX
    clear hmj HJ
    by_cases hlt : j < T
    · have d140 : decide ((j : Int) < 140) = true := by simp; omega
      have eo : (enc mj)[55]? = some (.bool true) := by rw [enc_b _ _ rfl (by omega), hon]; rfl
      obtain ⟨hc, hf⟩ := P20.out.out
      go_upto_region 17 with (fail)
      clear hc hf eo hon
      go_loopg [52] 2048 (fun g' i w5 => ∃ (s : Nat), s ≤ 2048 ∧ g' + s = 2048 ∧ i = .int .i64 s ∧ Below n_ W0 w5 ∧ Has w5 pb (enc (itN mj s)))
      case atStart => exact ⟨0, by omega, by omega, rfl, B20.out, P20.out⟩
      case round =>
        obtain ⟨u30, hw7⟩ : ∃ q_, q_ = wr := ⟨_, rfl⟩
        subst hw7
        obtain ⟨s, hs, hg, rfl, hB, hP⟩ := hrel
        have SG := Lib.hid hg
        have B30 := Lib.hid hB
        have P30 := Lib.hid hP
        clear hg hB hP B20 P20
        by_cases hls : s < 2048
        · have l2 : (s : Int) < 2048 := by omega
          have SC := Lib.hid (fun W => tick_c (itN mj s) (OJ.out s) W)
          obtain ⟨ma, hm1⟩ : ∃ q_, itN mj s = q_ := ⟨_, rfl⟩
          obtain ⟨mb, hm2⟩ : ∃ q_, itN mj (s + 1) = q_ := ⟨_, rfl⟩
          have hm3 : tickV (itN mj s) = mb := hm2
          rw [hm3] at SC
          rw [hm1] at SC P30
          have HM := Lib.hid hm2
          clear hm1 hm2 hm3
          go_wp2_with (first | ((first | (refine load_b P30.out rfl _ rfl rfl ?_) | (refine load_bg P30.out rfl _ rfl rfl ?_)); simp only [Act.put, List.setIfInBounds_toArray, List.set_cons_zero, List.set_cons_succ]))
          with_reducible refine (SC.out _).mono ?_
          rintro q_ u31 ⟨rfl, hb⟩
          have B31 := Lib.hid (vian HN.out B30.out hb)
          have P31 := Lib.hid (P30.out.below hb)
          clear hb B30 P30
          go_wp2_with (refine store_b P31.out (mb) rfl _ _ rfl rfl rfl ?_)
          intro u32 hP hk
          have P32 := Lib.hid hP
          have B32 := Lib.hid (hk.below HN.out LP.out B31.out)
          clear hk hP B31 P31
          try simp only [Act.put]
          go_wp2
          go_roundg (2048 - (s + 1))
          case measure => have := SG.out; omega
          case rel => exact ⟨s + 1, by omega, by have := SG.out; omega, by simp, B32.out, by rw [HM.out]; exact P32.out⟩
        · have te : s = 2048 := by omega
          subst te
          have l2 : ¬ ((2048 : Nat) : Int) < 2048 := by omega
          go_wp2
          go_roundg (T - (j + 1))
          case measure => have := JG.out; omega
          case rel => exact ⟨j + 1, by omega, by have := JG.out; omega, by simp, B30.out, by rw [HX.out]; exact P30.out⟩
    · have te : j = T := by omega
      subst te
      have jT := HT.out
      have eo : (enc mj)[55]? = some (.bool true) := by rw [enc_b _ _ rfl (by omega), hon]; rfl
      have d140 : decide ((j : Int) < 140) = false := by simp; omega
      have cmp : ((j : Int) == 140) = true := by simp; omega
      clear hon jT
      obtain ⟨hc, hf⟩ := P20.out.out
      go_wp2
      all_goals exact bodyPost_ret (v := .bool true) (by simp [results, Tryd.results4, go_sem]) rfl ⟨rfl, B20.out⟩
set_option maxHeartbeats 8000000 in
theorem lengths_21 (vn : Nat) (x : Int) (hv : vn % 4 = 2) (hv2 : vn < 256) (g0 : 0 ≤ x) (g1 : x < 256) (w : World) (hg : Glob w) : Calls Tryd.prog 4 #[.int .u8 vn, .int .u8 x, .bool true] w fun q_ w' => q_ = .returned (.bool true) ∧ Below w.heap.size w w' := by
  suffices hall : ∀ (n_ : Nat) (W0 : World), n_ ≤ W0.heap.size → Below n_ W0 w → Glob W0 → 0 < n_ → Calls Tryd.prog 4 #[.int .u8 vn, .int .u8 x, .bool true] w fun q_ w' => q_ = .returned (.bool true) ∧ Below n_ W0 w' from hall _ _ (Nat.le_refl _) (Below.refl _ _) hg hg.1
  clear hg
  intro n_ W0 hn hB hG hn0
  have HN := Lib.hid hn
  have BB := Lib.hid hB
  have HG := Lib.hid hG
  have N0 := Lib.hid hn0
  clear hn hB hG hn0
  have AW := Lib.hid awake_c
  obtain ⟨m1, hm1⟩ : ∃ q_, writeV zeroM 22 128 = q_ := ⟨_, rfl⟩
  obtain ⟨m2, hm2⟩ : ∃ q_, writeV m1 10 128 = q_ := ⟨_, rfl⟩
  obtain ⟨m3, hm3⟩ : ∃ q_, writeV m2 12 240 = q_ := ⟨_, rfl⟩
  obtain ⟨m4, hm4⟩ : ∃ q_, writeV m3 11 252 = q_ := ⟨_, rfl⟩
  obtain ⟨m5, hm5⟩ : ∃ q_, writeV m4 14 192 = q_ := ⟨_, rfl⟩
  have k1 : okM m1 := hm1 ▸ ok_write ok_zero 22 128 (by decide) (by decide)
  have k2 : okM m2 := hm2 ▸ ok_write k1 10 128 (by decide) (by decide)
  have k3 : okM m3 := hm3 ▸ ok_write k2 12 240 (by decide) (by decide)
  have k4 : okM m4 := hm4 ▸ ok_write k3 11 252 (by omega) (by omega)
  have k5 : okM m5 := hm5 ▸ ok_write k4 14 192 (by decide) (by decide)
  have C1 := Lib.hid (fun W => write_c zeroM ok_zero 22 128 (by decide) (by decide) W)
  have C2 := Lib.hid (fun W => write_c m1 k1 10 128 (by decide) (by decide) W)
  have C3 := Lib.hid (fun W => write_c m2 k2 12 240 (by decide) (by decide) W)
  have C4 := Lib.hid (fun W => write_c m3 k3 11 252 (by omega) (by omega) W)
  have C5 := Lib.hid (fun W => write_c m4 k4 14 192 (by decide) (by decide) W)
  rw [hm1] at C1
  rw [hm2] at C2
  rw [hm3] at C3
  rw [hm4] at C4
  rw [hm5] at C5
  obtain ⟨L, hL⟩ : ∃ L : Nat, 4 = (L : Int) := ⟨(4 : Int).toNat, by omega⟩
  have LB : 0 < L ∧ L ≤ 64 := by omega
  have e5 : m5 = lenM 2 252 192 := by rw [← hm5, ← hm4, ← hm3, ← hm2, ← hm1]; rfl
  have q5 := len_init 2 (by omega) 252 192 1 (by decide) (by decide) (L : Int) (by rw [← hL]; rfl) (by omega)
  rw [← e5] at q5
  obtain ⟨q1, q2, q3, q4⟩ := q5
  have OI := Lib.hid (fun t => ok_it k5 t)
  obtain ⟨T, hT⟩ : ∃ q_, (2 * L - 1) = q_ := ⟨_, rfl⟩
  have TB : T ≤ 140 ∧ 0 < T := by omega
  have ON : ∀ j, j ≤ T → itN m5 (2048 * j) 59 = if j = T then 0 else 1 := fun j hj => by have := (cnt_down q1 (by omega) q2 q3 L LB.1 q4 j (by omega)).2.2.2; rw [hT] at this; exact this
  have SO := Lib.hid ON
  have HT := Lib.hid hT
  have i4 : (vn : Int) % 4 = 2 := by omega
  have i4t : (vn : Int).tmod 4 = 2 := by rw [Int.tmod_eq_emod_of_nonneg (by omega)]; exact i4
  clear hm1 hm2 hm3 hm4 hm5 k1 k2 k3 k4 k5 e5 q1 q2 q3 q4 ON hT hv
  have L4 : L = 4 := by omega
  subst L4
  clear hL
  have hz29 : ∀ w : World, (zeroValue 29).run Tryd.prog w = .ok (.agg (enc zeroM)) w := zero29
  have hnot : ∀ (x : Bool) (w : World), (Op.unary .not (.bool x)).run Tryd.prog w = .ok (.bool (!x)) w := fun _ _ => rfl
  go_enter Tryd.func4, Tryd.ntmps4
  go_wp2_with (fail)
  with_reducible refine (AW.out _ (HG.out.below N0.out BB.out)).mono ?_
  rintro q_ u1 ⟨rfl, hb⟩
  have B1 := Lib.hid (vian HN.out BB.out hb)
  clear hb 
  go_wp2_with (fail)
  with_reducible refine (C1.out _).mono ?_
  rintro q_ u2 ⟨rfl, hb⟩
  have B2 := Lib.hid (vian HN.out B1.out hb)
  clear hb B1
  go_wp2_with (fail)
  with_reducible refine (C2.out _).mono ?_
  rintro q_ u3 ⟨rfl, hb⟩
  have B3 := Lib.hid (vian HN.out B2.out hb)
  clear hb B2
  go_wp2_with (refine store_b (Has.new u3 (enc zeroM) 29) (m2) rfl _ _ rfl rfl rfl ?_)
  intro u4 hP hk
  have Q_ := own1 u3 (.cells (enc zeroM) 29)
  have LP := Lib.hid (show n_ ≤ u3.heap.size from Nat.le_trans HN.out B3.out.size)
  have B4 := Lib.hid (hk.below HN.out LP.out (vian HN.out B3.out Q_))
  have P4 := Lib.hid hP
  generalize u3.heap.size = pb at LP  P4 ⊢
  clear hk hP Q_ B3
  try simp only [Act.put, List.setIfInBounds_toArray, List.set_cons_zero, List.set_cons_succ]
  go_wp2_with (first | ((first | (refine load_b P4.out rfl _ rfl rfl ?_) | (refine load_bg P4.out rfl _ rfl rfl ?_)); simp only [Act.put, List.setIfInBounds_toArray, List.set_cons_zero, List.set_cons_succ]))
  with_reducible refine (C3.out _).mono ?_
  rintro q_ u5 ⟨rfl, hb⟩
  have B5 := Lib.hid (vian HN.out B4.out hb)
  have P5 := Lib.hid (P4.out.below hb)
  clear hb B4 P4
  go_wp2_with (fail)
  with_reducible refine (C4.out _).mono ?_
  rintro q_ u6 ⟨rfl, hb⟩
  have B6 := Lib.hid (vian HN.out B5.out hb)
  have P6 := Lib.hid (P5.out.below hb)
  clear hb B5 P5
  go_wp2_with (refine store_b P6.out (m4) rfl _ _ rfl rfl rfl ?_)
  intro u7 hP hk
  have P7 := Lib.hid hP
  have B7 := Lib.hid (hk.below HN.out LP.out B6.out)
  clear hk hP B6 P6
  try simp only [Act.put]
  go_wp2_with (first | ((first | (refine load_b P7.out rfl _ rfl rfl ?_) | (refine load_bg P7.out rfl _ rfl rfl ?_)); simp only [Act.put, List.setIfInBounds_toArray, List.set_cons_zero, List.set_cons_succ]))
  with_reducible refine (C5.out _).mono ?_
  rintro q_ u8 ⟨rfl, hb⟩
  have B8 := Lib.hid (vian HN.out B7.out hb)
  have P8 := Lib.hid (P7.out.below hb)
  clear hb B7 P7
  go_wp2_with (refine store_b P8.out (m5) rfl _ _ rfl rfl rfl ?_)
  intro u9 hP hk
  have P9 := Lib.hid hP
  have B9 := Lib.hid (hk.below HN.out LP.out B8.out)
  clear hk hP B8 P8
  try simp only [Act.put]
  go_upto_region 15 with (fail)
  go_loopg [11] T (fun g' i w5 => ∃ (j : Nat), j ≤ T ∧ g' + j = T ∧ i = .int .i64 j ∧ Below n_ W0 w5 ∧ Has w5 pb (enc (itN m5 (2048 * j))))
  case atStart => exact ⟨0, by omega, by omega, rfl, B9.out, P9.out⟩
  case round =>
    obtain ⟨u20, hw7⟩ : ∃ q_, q_ = wr := ⟨_, rfl⟩
    subst hw7
    obtain ⟨j, hj, hg, rfl, hB, hP⟩ := hrel
    have JG := Lib.hid hg
    have B20 := Lib.hid hB
    have P20 := Lib.hid hP
    clear hg hB hP B9 P9
    have hon := SO.out j hj
    have HJ := Lib.hid (fun s => itN_add m5 (2048 * j) s)
    have OJ := Lib.hid (fun s => ok_it (OI.out (2048 * j)) s)
    have HX := Lib.hid (itN_mul m5 2048 j)
    obtain ⟨mj, hmj⟩ : ∃ q_, itN m5 (2048 * j) = q_ := ⟨_, rfl⟩
    rw [hmj] at P20 hon OJ HX
    clear hmj HJ
    by_cases hlt : j < T
    · have d140 : decide ((j : Int) < 140) = true := by simp; omega
      rw [if_neg (by omega)] at hon
      have eo : (enc mj)[59]? = some (.bool true) := by rw [enc_b _ _ rfl (by omega), hon]; rfl
      obtain ⟨hc, hf⟩ := P20.out.out
      go_upto_region 17 with (fail)
      clear hc hf eo hon
      go_loopg [52] 2048 (fun g' i w5 => ∃ (s : Nat), s ≤ 2048 ∧ g' + s = 2048 ∧ i = .int .i64 s ∧ Below n_ W0 w5 ∧ Has w5 pb (enc (itN mj s)))
      case atStart => exact ⟨0, by omega, by omega, rfl, B20.out, P20.out⟩
      case round =>
        obtain ⟨u30, hw7⟩ : ∃ q_, q_ = wr := ⟨_, rfl⟩
        subst hw7
        obtain ⟨s, hs, hg, rfl, hB, hP⟩ := hrel
        have SG := Lib.hid hg
        have B30 := Lib.hid hB
        have P30 := Lib.hid hP
        clear hg hB hP B20 P20
        by_cases hls : s < 2048
        · have l2 : (s : Int) < 2048 := by omega
          have SC := Lib.hid (fun W => tick_c (itN mj s) (OJ.out s) W)
          obtain ⟨ma, hm1⟩ : ∃ q_, itN mj s = q_ := ⟨_, rfl⟩
          obtain ⟨mb, hm2⟩ : ∃ q_, itN mj (s + 1) = q_ := ⟨_, rfl⟩
          have hm3 : tickV (itN mj s) = mb := hm2
          rw [hm3] at SC
          rw [hm1] at SC P30
          have HM := Lib.hid hm2
          clear hm1 hm2 hm3
          go_wp2_with (first | ((first | (refine load_b P30.out rfl _ rfl rfl ?_) | (refine load_bg P30.out rfl _ rfl rfl ?_)); simp only [Act.put, List.setIfInBounds_toArray, List.set_cons_zero, List.set_cons_succ]))
          with_reducible refine (SC.out _).mono ?_
          rintro q_ u31 ⟨rfl, hb⟩
          have B31 := Lib.hid (vian HN.out B30.out hb)
          have P31 := Lib.hid (P30.out.below hb)
          clear hb B30 P30
          go_wp2_with (refine store_b P31.out (mb) rfl _ _ rfl rfl rfl ?_)
          intro u32 hP hk
          have P32 := Lib.hid hP
          have B32 := Lib.hid (hk.below HN.out LP.out B31.out)
          clear hk hP B31 P31
          try simp only [Act.put]
          go_wp2
          go_roundg (2048 - (s + 1))
          case measure => have := SG.out; omega
          case rel => exact ⟨s + 1, by omega, by have := SG.out; omega, by simp, B32.out, by rw [HM.out]; exact P32.out⟩
        · have te : s = 2048 := by omega
          subst te
          have l2 : ¬ ((2048 : Nat) : Int) < 2048 := by omega
          go_wp2
          go_roundg (T - (j + 1))
          case measure => have := JG.out; omega
          case rel => exact ⟨j + 1, by omega, by have := JG.out; omega, by simp, B30.out, by rw [HX.out]; exact P30.out⟩
    · have te : j = T := by omega
      subst te
      have jT := HT.out
      rw [if_pos rfl] at hon
      have eo : (enc mj)[59]? = some (.bool false) := by rw [enc_b _ _ rfl (by omega), hon]; rfl
      have tv : 2 * 4 - 1 = (j : Int) := by omega
      have cmp : ((j : Int) == 2 * 4 - 1) = true := by simp; omega
      clear hon jT
      obtain ⟨hc, hf⟩ := P20.out.out
      go_wp2
      all_goals exact bodyPost_ret (v := .bool true) (by simp [results, Tryd.results4, go_sem]) rfl ⟨rfl, B20.out⟩
set_option maxHeartbeats 8000000 in
theorem lengths_20 (vn : Nat) (x : Int) (hv : vn % 4 = 2) (hv2 : vn < 256) (g0 : 0 ≤ x) (g1 : x < 256) (w : World) (hg : Glob w) : Calls Tryd.prog 4 #[.int .u8 vn, .int .u8 x, .bool false] w fun q_ w' => q_ = .returned (.bool true) ∧ Below w.heap.size w w' := by
  suffices hall : ∀ (n_ : Nat) (W0 : World), n_ ≤ W0.heap.size → Below n_ W0 w → Glob W0 → 0 < n_ → Calls Tryd.prog 4 #[.int .u8 vn, .int .u8 x, .bool false] w fun q_ w' => q_ = .returned (.bool true) ∧ Below n_ W0 w' from hall _ _ (Nat.le_refl _) (Below.refl _ _) hg hg.1
  clear hg
  intro n_ W0 hn hB hG hn0
  have HN := Lib.hid hn
  have BB := Lib.hid hB
  have HG := Lib.hid hG
  have N0 := Lib.hid hn0
  clear hn hB hG hn0
  have AW := Lib.hid awake_c
  obtain ⟨m1, hm1⟩ : ∃ q_, writeV zeroM 22 128 = q_ := ⟨_, rfl⟩
  obtain ⟨m2, hm2⟩ : ∃ q_, writeV m1 10 128 = q_ := ⟨_, rfl⟩
  obtain ⟨m3, hm3⟩ : ∃ q_, writeV m2 12 240 = q_ := ⟨_, rfl⟩
  obtain ⟨m4, hm4⟩ : ∃ q_, writeV m3 11 252 = q_ := ⟨_, rfl⟩
  obtain ⟨m5, hm5⟩ : ∃ q_, writeV m4 14 128 = q_ := ⟨_, rfl⟩
  have k1 : okM m1 := hm1 ▸ ok_write ok_zero 22 128 (by decide) (by decide)
  have k2 : okM m2 := hm2 ▸ ok_write k1 10 128 (by decide) (by decide)
  have k3 : okM m3 := hm3 ▸ ok_write k2 12 240 (by decide) (by decide)
  have k4 : okM m4 := hm4 ▸ ok_write k3 11 252 (by omega) (by omega)
  have k5 : okM m5 := hm5 ▸ ok_write k4 14 128 (by decide) (by decide)
  have C1 := Lib.hid (fun W => write_c zeroM ok_zero 22 128 (by decide) (by decide) W)
  have C2 := Lib.hid (fun W => write_c m1 k1 10 128 (by decide) (by decide) W)
  have C3 := Lib.hid (fun W => write_c m2 k2 12 240 (by decide) (by decide) W)
  have C4 := Lib.hid (fun W => write_c m3 k3 11 252 (by omega) (by omega) W)
  have C5 := Lib.hid (fun W => write_c m4 k4 14 128 (by decide) (by decide) W)
  rw [hm1] at C1
  rw [hm2] at C2
  rw [hm3] at C3
  rw [hm4] at C4
  rw [hm5] at C5
  obtain ⟨L, hL⟩ : ∃ L : Nat, 4 = (L : Int) := ⟨(4 : Int).toNat, by omega⟩
  have LB : 0 < L ∧ L ≤ 64 := by omega
  have e5 : m5 = lenM 2 252 128 := by rw [← hm5, ← hm4, ← hm3, ← hm2, ← hm1]; rfl
  have q5 := len_init 2 (by omega) 252 128 0 (by decide) (by decide) (L : Int) (by rw [← hL]; rfl) (by omega)
  rw [← e5] at q5
  obtain ⟨q1, q2, q3, q4⟩ := q5
  have OI := Lib.hid (fun t => ok_it k5 t)
  obtain ⟨T, hT⟩ : ∃ q_, 140 = q_ := ⟨_, rfl⟩
  have TB : T ≤ 140 ∧ 0 < T := by omega
  have ON : ∀ j, j ≤ T → itN m5 (2048 * j) 59 = 1 := fun j hj => (cnt_free q1 (by omega) q2 q3 j).2.2
  have SO := Lib.hid ON
  have HT := Lib.hid hT
  have i4 : (vn : Int) % 4 = 2 := by omega
  have i4t : (vn : Int).tmod 4 = 2 := by rw [Int.tmod_eq_emod_of_nonneg (by omega)]; exact i4
  clear hm1 hm2 hm3 hm4 hm5 k1 k2 k3 k4 k5 e5 q1 q2 q3 q4 ON hT hv
  have L4 : L = 4 := by omega
  subst L4
  clear hL
  have hz29 : ∀ w : World, (zeroValue 29).run Tryd.prog w = .ok (.agg (enc zeroM)) w := zero29
  have hnot : ∀ (x : Bool) (w : World), (Op.unary .not (.bool x)).run Tryd.prog w = .ok (.bool (!x)) w := fun _ _ => rfl
  go_enter Tryd.func4, Tryd.ntmps4
  go_wp2_with (fail)
  with_reducible refine (AW.out _ (HG.out.below N0.out BB.out)).mono ?_
  rintro q_ u1 ⟨rfl, hb⟩
  have B1 := Lib.hid (vian HN.out BB.out hb)
  clear hb 
  go_wp2_with (fail)
  with_reducible refine (C1.out _).mono ?_
  rintro q_ u2 ⟨rfl, hb⟩
  have B2 := Lib.hid (vian HN.out B1.out hb)
  clear hb B1
  go_wp2_with (fail)
  with_reducible refine (C2.out _).mono ?_
  rintro q_ u3 ⟨rfl, hb⟩
  have B3 := Lib.hid (vian HN.out B2.out hb)
  clear hb B2
  go_wp2_with (refine store_b (Has.new u3 (enc zeroM) 29) (m2) rfl _ _ rfl rfl rfl ?_)
  intro u4 hP hk
  have Q_ := own1 u3 (.cells (enc zeroM) 29)
  have LP := Lib.hid (show n_ ≤ u3.heap.size from Nat.le_trans HN.out B3.out.size)
  have B4 := Lib.hid (hk.below HN.out LP.out (vian HN.out B3.out Q_))
  have P4 := Lib.hid hP
  generalize u3.heap.size = pb at LP  P4 ⊢
  clear hk hP Q_ B3
  try simp only [Act.put, List.setIfInBounds_toArray, List.set_cons_zero, List.set_cons_succ]
  go_wp2_with (first | ((first | (refine load_b P4.out rfl _ rfl rfl ?_) | (refine load_bg P4.out rfl _ rfl rfl ?_)); simp only [Act.put, List.setIfInBounds_toArray, List.set_cons_zero, List.set_cons_succ]))
  with_reducible refine (C3.out _).mono ?_
  rintro q_ u5 ⟨rfl, hb⟩
  have B5 := Lib.hid (vian HN.out B4.out hb)
  have P5 := Lib.hid (P4.out.below hb)
  clear hb B4 P4
  go_wp2_with (fail)
  with_reducible refine (C4.out _).mono ?_
  rintro q_ u6 ⟨rfl, hb⟩
  have B6 := Lib.hid (vian HN.out B5.out hb)
  have P6 := Lib.hid (P5.out.below hb)
  clear hb B5 P5
  go_wp2_with (refine store_b P6.out (m4) rfl _ _ rfl rfl rfl ?_)
  intro u7 hP hk
  have P7 := Lib.hid hP
  have B7 := Lib.hid (hk.below HN.out LP.out B6.out)
  clear hk hP B6 P6
  try simp only [Act.put]
  go_wp2_with (first | ((first | (refine load_b P7.out rfl _ rfl rfl ?_) | (refine load_bg P7.out rfl _ rfl rfl ?_)); simp only [Act.put, List.setIfInBounds_toArray, List.set_cons_zero, List.set_cons_succ]))
  with_reducible refine (C5.out _).mono ?_
  rintro q_ u8 ⟨rfl, hb⟩
  have B8 := Lib.hid (vian HN.out B7.out hb)
  have P8 := Lib.hid (P7.out.below hb)
  clear hb B7 P7
  go_wp2_with (refine store_b P8.out (m5) rfl _ _ rfl rfl rfl ?_)
  intro u9 hP hk
  have P9 := Lib.hid hP
  have B9 := Lib.hid (hk.below HN.out LP.out B8.out)
  clear hk hP B8 P8
  try simp only [Act.put]
  go_upto_region 15 with (fail)
  go_loopg [11] T (fun g' i w5 => ∃ (j : Nat), j ≤ T ∧ g' + j = T ∧ i = .int .i64 j ∧ Below n_ W0 w5 ∧ Has w5 pb (enc (itN m5 (2048 * j))))
  case atStart => exact ⟨0, by omega, by omega, rfl, B9.out, P9.out⟩
  case round =>
    obtain ⟨u20, hw7⟩ : ∃ q_, q_ = wr := ⟨_, rfl⟩
    subst hw7
    obtain ⟨j, hj, hg, rfl, hB, hP⟩ := hrel
    have JG := Lib.hid hg
    have B20 := Lib.hid hB
    have P20 := Lib.hid hP
    clear hg hB hP B9 P9
    have hon := SO.out j hj
    have HJ := Lib.hid (fun s => itN_add m5 (2048 * j) s)
    have OJ := Lib.hid (fun s => ok_it (OI.out (2048 * j)) s)
    have HX := Lib.hid (itN_mul m5 2048 j)
    obtain ⟨mj, hmj⟩ : ∃ q_, itN m5 (2048 * j) = q_ := ⟨_, rfl⟩
    rw [hmj] at P20 hon OJ HX
    clear hmj HJ
    by_cases hlt : j < T
    · have d140 : decide ((j : Int) < 140) = true := by simp; omega
      have eo : (enc mj)[59]? = some (.bool true) := by rw [enc_b _ _ rfl (by omega), hon]; rfl
      obtain ⟨hc, hf⟩ := P20.out.out
      go_upto_region 17 with (fail)
      clear hc hf eo hon
      go_loopg [52] 2048 (fun g' i w5 => ∃ (s : Nat), s ≤ 2048 ∧ g' + s = 2048 ∧ i = .int .i64 s ∧ Below n_ W0 w5 ∧ Has w5 pb (enc (itN mj s)))
      case atStart => exact ⟨0, by omega, by omega, rfl, B20.out, P20.out⟩
      case round =>
        obtain ⟨u30, hw7⟩ : ∃ q_, q_ = wr := ⟨_, rfl⟩
        subst hw7
        obtain ⟨s, hs, hg, rfl, hB, hP⟩ := hrel
        have SG := Lib.hid hg
        have B30 := Lib.hid hB
        have P30 := Lib.hid hP
        clear hg hB hP B20 P20
        by_cases hls : s < 2048
        · have l2 : (s : Int) < 2048 := by omega
          have SC := Lib.hid (fun W => tick_c (itN mj s) (OJ.out s) W)
          obtain ⟨ma, hm1⟩ : ∃ q_, itN mj s = q_ := ⟨_, rfl⟩
          obtain ⟨mb, hm2⟩ : ∃ q_, itN mj (s + 1) = q_ := ⟨_, rfl⟩
          have hm3 : tickV (itN mj s) = mb := hm2
          rw [hm3] at SC
          rw [hm1] at SC P30
          have HM := Lib.hid hm2
          clear hm1 hm2 hm3
          go_wp2_with (first | ((first | (refine load_b P30.out rfl _ rfl rfl ?_) | (refine load_bg P30.out rfl _ rfl rfl ?_)); simp only [Act.put, List.setIfInBounds_toArray, List.set_cons_zero, List.set_cons_succ]))
          with_reducible refine (SC.out _).mono ?_
          rintro q_ u31 ⟨rfl, hb⟩
          have B31 := Lib.hid (vian HN.out B30.out hb)
          have P31 := Lib.hid (P30.out.below hb)
          clear hb B30 P30
          go_wp2_with (refine store_b P31.out (mb) rfl _ _ rfl rfl rfl ?_)
          intro u32 hP hk
          have P32 := Lib.hid hP
          have B32 := Lib.hid (hk.below HN.out LP.out B31.out)
          clear hk hP B31 P31
          try simp only [Act.put]
          go_wp2
          go_roundg (2048 - (s + 1))
          case measure => have := SG.out; omega
          case rel => exact ⟨s + 1, by omega, by have := SG.out; omega, by simp, B32.out, by rw [HM.out]; exact P32.out⟩
        · have te : s = 2048 := by omega
          subst te
          have l2 : ¬ ((2048 : Nat) : Int) < 2048 := by omega
          go_wp2
          go_roundg (T - (j + 1))
          case measure => have := JG.out; omega
          case rel => exact ⟨j + 1, by omega, by have := JG.out; omega, by simp, B30.out, by rw [HX.out]; exact P30.out⟩
    · have te : j = T := by omega
      subst te
      have jT := HT.out
      have eo : (enc mj)[59]? = some (.bool true) := by rw [enc_b _ _ rfl (by omega), hon]; rfl
      have d140 : decide ((j : Int) < 140) = false := by simp; omega
      have cmp : ((j : Int) == 140) = true := by simp; omega
      clear hon jT
      obtain ⟨hc, hf⟩ := P20.out.out
      go_wp2
      all_goals exact bodyPost_ret (v := .bool true) (by simp [results, Tryd.results4, go_sem]) rfl ⟨rfl, B20.out⟩
set_option maxHeartbeats 8000000 in
theorem lengths_31 (vn : Nat) (x : Int) (hv : vn % 4 = 3) (hv2 : vn < 256) (g0 : 0 ≤ x) (g1 : x < 256) (w : World) (hg : Glob w) : Calls Tryd.prog 4 #[.int .u8 vn, .int .u8 x, .bool true] w fun q_ w' => q_ = .returned (.bool true) ∧ Below w.heap.size w w' := by
  suffices hall : ∀ (n_ : Nat) (W0 : World), n_ ≤ W0.heap.size → Below n_ W0 w → Glob W0 → 0 < n_ → Calls Tryd.prog 4 #[.int .u8 vn, .int .u8 x, .bool true] w fun q_ w' => q_ = .returned (.bool true) ∧ Below n_ W0 w' from hall _ _ (Nat.le_refl _) (Below.refl _ _) hg hg.1
  clear hg
  intro n_ W0 hn hB hG hn0
  have HN := Lib.hid hn
  have BB := Lib.hid hB
  have HG := Lib.hid hG
  have N0 := Lib.hid hn0
  clear hn hB hG hn0
  have AW := Lib.hid awake_c
  obtain ⟨m1, hm1⟩ : ∃ q_, writeV zeroM 22 128 = q_ := ⟨_, rfl⟩
  obtain ⟨m2, hm2⟩ : ∃ q_, writeV m1 10 128 = q_ := ⟨_, rfl⟩
  obtain ⟨m3, hm3⟩ : ∃ q_, writeV m2 17 240 = q_ := ⟨_, rfl⟩
  obtain ⟨m4, hm4⟩ : ∃ q_, writeV m3 16 x = q_ := ⟨_, rfl⟩
  obtain ⟨m5, hm5⟩ : ∃ q_, writeV m4 19 192 = q_ := ⟨_, rfl⟩
  have k1 : okM m1 := hm1 ▸ ok_write ok_zero 22 128 (by decide) (by decide)
  have k2 : okM m2 := hm2 ▸ ok_write k1 10 128 (by decide) (by decide)
  have k3 : okM m3 := hm3 ▸ ok_write k2 17 240 (by decide) (by decide)
  have k4 : okM m4 := hm4 ▸ ok_write k3 16 x (by omega) (by omega)
  have k5 : okM m5 := hm5 ▸ ok_write k4 19 192 (by decide) (by decide)
  have C1 := Lib.hid (fun W => write_c zeroM ok_zero 22 128 (by decide) (by decide) W)
  have C2 := Lib.hid (fun W => write_c m1 k1 10 128 (by decide) (by decide) W)
  have C3 := Lib.hid (fun W => write_c m2 k2 17 240 (by decide) (by decide) W)
  have C4 := Lib.hid (fun W => write_c m3 k3 16 x (by omega) (by omega) W)
  have C5 := Lib.hid (fun W => write_c m4 k4 19 192 (by decide) (by decide) W)
  rw [hm1] at C1
  rw [hm2] at C2
  rw [hm3] at C3
  rw [hm4] at C4
  rw [hm5] at C5
  obtain ⟨L, hL⟩ : ∃ L : Nat, (64 - x % 64) = (L : Int) := ⟨((64 - x % 64) : Int).toNat, by omega⟩
  have LB : 0 < L ∧ L ≤ 64 := by omega
  have e5 : m5 = lenM 3 x 192 := by rw [← hm5, ← hm4, ← hm3, ← hm2, ← hm1]; rfl
  have q5 := len_init 3 (by omega) x 192 1 (by decide) (by decide) (L : Int) (by rw [← hL]; rfl) (by omega)
  rw [← e5] at q5
  obtain ⟨q1, q2, q3, q4⟩ := q5
  have OI := Lib.hid (fun t => ok_it k5 t)
  obtain ⟨T, hT⟩ : ∃ q_, (2 * L - 1) = q_ := ⟨_, rfl⟩
  have TB : T ≤ 140 ∧ 0 < T := by omega
  have ON : ∀ j, j ≤ T → itN m5 (2048 * j) 63 = if j = T then 0 else 1 := fun j hj => by have := (cnt_down q1 (by omega) q2 q3 L LB.1 q4 j (by omega)).2.2.2; rw [hT] at this; exact this
  have SO := Lib.hid ON
  have HT := Lib.hid hT
  have i4 : (vn : Int) % 4 = 3 := by omega
  have i4t : (vn : Int).tmod 4 = 3 := by rw [Int.tmod_eq_emod_of_nonneg (by omega)]; exact i4
  clear hm1 hm2 hm3 hm4 hm5 k1 k2 k3 k4 k5 e5 q1 q2 q3 q4 ON hT hv
  have hz29 : ∀ w : World, (zeroValue 29).run Tryd.prog w = .ok (.agg (enc zeroM)) w := zero29
  have hnot : ∀ (x : Bool) (w : World), (Op.unary .not (.bool x)).run Tryd.prog w = .ok (.bool (!x)) w := fun _ _ => rfl
  go_enter Tryd.func4, Tryd.ntmps4
  go_wp2_with (fail)
  with_reducible refine (AW.out _ (HG.out.below N0.out BB.out)).mono ?_
  rintro q_ u1 ⟨rfl, hb⟩
  have B1 := Lib.hid (vian HN.out BB.out hb)
  clear hb 
  go_wp2_with (fail)
  with_reducible refine (C1.out _).mono ?_
  rintro q_ u2 ⟨rfl, hb⟩
  have B2 := Lib.hid (vian HN.out B1.out hb)
  clear hb B1
  go_wp2_with (fail)
  with_reducible refine (C2.out _).mono ?_
  rintro q_ u3 ⟨rfl, hb⟩
  have B3 := Lib.hid (vian HN.out B2.out hb)
  clear hb B2
  go_wp2_with (refine store_b (Has.new u3 (enc zeroM) 29) (m2) rfl _ _ rfl rfl rfl ?_)
  intro u4 hP hk
  have Q_ := own1 u3 (.cells (enc zeroM) 29)
  have LP := Lib.hid (show n_ ≤ u3.heap.size from Nat.le_trans HN.out B3.out.size)
  have B4 := Lib.hid (hk.below HN.out LP.out (vian HN.out B3.out Q_))
  have P4 := Lib.hid hP
  generalize u3.heap.size = pb at LP  P4 ⊢
  clear hk hP Q_ B3
  try simp only [Act.put, List.setIfInBounds_toArray, List.set_cons_zero, List.set_cons_succ]
  go_wp2_with (first | ((first | (refine load_b P4.out rfl _ rfl rfl ?_) | (refine load_bg P4.out rfl _ rfl rfl ?_)); simp only [Act.put, List.setIfInBounds_toArray, List.set_cons_zero, List.set_cons_succ]))
  with_reducible refine (C3.out _).mono ?_
  rintro q_ u5 ⟨rfl, hb⟩
  have B5 := Lib.hid (vian HN.out B4.out hb)
  have P5 := Lib.hid (P4.out.below hb)
  clear hb B4 P4
  go_wp2_with (fail)
  with_reducible refine (C4.out _).mono ?_
  rintro q_ u6 ⟨rfl, hb⟩
  have B6 := Lib.hid (vian HN.out B5.out hb)
  have P6 := Lib.hid (P5.out.below hb)
  clear hb B5 P5
  go_wp2_with (refine store_b P6.out (m4) rfl _ _ rfl rfl rfl ?_)
  intro u7 hP hk
  have P7 := Lib.hid hP
  have B7 := Lib.hid (hk.below HN.out LP.out B6.out)
  clear hk hP B6 P6
  try simp only [Act.put]
  go_wp2_with (first | ((first | (refine load_b P7.out rfl _ rfl rfl ?_) | (refine load_bg P7.out rfl _ rfl rfl ?_)); simp only [Act.put, List.setIfInBounds_toArray, List.set_cons_zero, List.set_cons_succ]))
  with_reducible refine (C5.out _).mono ?_
  rintro q_ u8 ⟨rfl, hb⟩
  have B8 := Lib.hid (vian HN.out B7.out hb)
  have P8 := Lib.hid (P7.out.below hb)
  clear hb B7 P7
  go_wp2_with (refine store_b P8.out (m5) rfl _ _ rfl rfl rfl ?_)
  intro u9 hP hk
  have P9 := Lib.hid hP
  have B9 := Lib.hid (hk.below HN.out LP.out B8.out)
  clear hk hP B8 P8
  try simp only [Act.put]
  go_upto_region 15 with (fail)
  go_loopg [11] T (fun g' i w5 => ∃ (j : Nat), j ≤ T ∧ g' + j = T ∧ i = .int .i64 j ∧ Below n_ W0 w5 ∧ Has w5 pb (enc (itN m5 (2048 * j))))
  case atStart => exact ⟨0, by omega, by omega, rfl, B9.out, P9.out⟩
  case round =>
    obtain ⟨u20, hw7⟩ : ∃ q_, q_ = wr := ⟨_, rfl⟩
    subst hw7
    obtain ⟨j, hj, hg, rfl, hB, hP⟩ := hrel
    have JG := Lib.hid hg
    have B20 := Lib.hid hB
    have P20 := Lib.hid hP
    clear hg hB hP B9 P9
    have hon := SO.out j hj
    have HJ := Lib.hid (fun s => itN_add m5 (2048 * j) s)
    have OJ := Lib.hid (fun s => ok_it (OI.out (2048 * j)) s)
    have HX := Lib.hid (itN_mul m5 2048 j)
    obtain ⟨mj, hmj⟩ : ∃ q_, itN m5 (2048 * j) = q_ := ⟨_, rfl⟩
    rw [hmj] at P20 hon OJ HX
    clear hmj HJ
    by_cases hlt : j < T
    · have d140 : decide ((j : Int) < 140) = true := by simp; omega
      rw [if_neg (by omega)] at hon
      have eo : (enc mj)[63]? = some (.bool true) := by rw [enc_b _ _ rfl (by omega), hon]; rfl
      obtain ⟨hc, hf⟩ := P20.out.out
      go_upto_region 17 with (fail)
      clear hc hf eo hon
      go_loopg [52] 2048 (fun g' i w5 => ∃ (s : Nat), s ≤ 2048 ∧ g' + s = 2048 ∧ i = .int .i64 s ∧ Below n_ W0 w5 ∧ Has w5 pb (enc (itN mj s)))
      case atStart => exact ⟨0, by omega, by omega, rfl, B20.out, P20.out⟩
      case round =>
        obtain ⟨u30, hw7⟩ : ∃ q_, q_ = wr := ⟨_, rfl⟩
        subst hw7
        obtain ⟨s, hs, hg, rfl, hB, hP⟩ := hrel
        have SG := Lib.hid hg
        have B30 := Lib.hid hB
        have P30 := Lib.hid hP
        clear hg hB hP B20 P20
        by_cases hls : s < 2048
        · have l2 : (s : Int) < 2048 := by omega
          have SC := Lib.hid (fun W => tick_c (itN mj s) (OJ.out s) W)
          obtain ⟨ma, hm1⟩ : ∃ q_, itN mj s = q_ := ⟨_, rfl⟩
          obtain ⟨mb, hm2⟩ : ∃ q_, itN mj (s + 1) = q_ := ⟨_, rfl⟩
          have hm3 : tickV (itN mj s) = mb := hm2
          rw [hm3] at SC
          rw [hm1] at SC P30
          have HM := Lib.hid hm2
          clear hm1 hm2 hm3
          go_wp2_with (first | ((first | (refine load_b P30.out rfl _ rfl rfl ?_) | (refine load_bg P30.out rfl _ rfl rfl ?_)); simp only [Act.put, List.setIfInBounds_toArray, List.set_cons_zero, List.set_cons_succ]))
          with_reducible refine (SC.out _).mono ?_
          rintro q_ u31 ⟨rfl, hb⟩
          have B31 := Lib.hid (vian HN.out B30.out hb)
          have P31 := Lib.hid (P30.out.below hb)
          clear hb B30 P30
          go_wp2_with (refine store_b P31.out (mb) rfl _ _ rfl rfl rfl ?_)
          intro u32 hP hk
          have P32 := Lib.hid hP
          have B32 := Lib.hid (hk.below HN.out LP.out B31.out)
          clear hk hP B31 P31
          try simp only [Act.put]
          go_wp2
          go_roundg (2048 - (s + 1))
          case measure => have := SG.out; omega
          case rel => exact ⟨s + 1, by omega, by have := SG.out; omega, by simp, B32.out, by rw [HM.out]; exact P32.out⟩
        · have te : s = 2048 := by omega
          subst te
          have l2 : ¬ ((2048 : Nat) : Int) < 2048 := by omega
          go_wp2
          go_roundg (T - (j + 1))
          case measure => have := JG.out; omega
          case rel => exact ⟨j + 1, by omega, by have := JG.out; omega, by simp, B30.out, by rw [HX.out]; exact P30.out⟩
    · have te : j = T := by omega
      subst te
      have jT := HT.out
      rw [if_pos rfl] at hon
      have eo : (enc mj)[63]? = some (.bool false) := by rw [enc_b _ _ rfl (by omega), hon]; rfl
      have tv : 2 * (L : Int) - 1 = (j : Int) := by omega
      have cmp : ((j : Int) == 2 * (L : Int) - 1) = true := by simp; omega
      clear hon jT
      obtain ⟨hc, hf⟩ := P20.out.out
      go_wp2
      all_goals exact bodyPost_ret (v := .bool true) (by simp [results, Tryd.results4, go_sem]) rfl ⟨rfl, B20.out⟩
set_option maxHeartbeats 8000000 in
theorem lengths_30 (vn : Nat) (x : Int) (hv : vn % 4 = 3) (hv2 : vn < 256) (g0 : 0 ≤ x) (g1 : x < 256) (w : World) (hg : Glob w) : Calls Tryd.prog 4 #[.int .u8 vn, .int .u8 x, .bool false] w fun q_ w' => q_ = .returned (.bool true) ∧ Below w.heap.size w w' := by
  suffices hall : ∀ (n_ : Nat) (W0 : World), n_ ≤ W0.heap.size → Below n_ W0 w → Glob W0 → 0 < n_ → Calls Tryd.prog 4 #[.int .u8 vn, .int .u8 x, .bool false] w fun q_ w' => q_ = .returned (.bool true) ∧ Below n_ W0 w' from hall _ _ (Nat.le_refl _) (Below.refl _ _) hg hg.1
  clear hg
  intro n_ W0 hn hB hG hn0
  have HN := Lib.hid hn
  have BB := Lib.hid hB
  have HG := Lib.hid hG
  have N0 := Lib.hid hn0
  clear hn hB hG hn0
  have AW := Lib.hid awake_c
  obtain ⟨m1, hm1⟩ : ∃ q_, writeV zeroM 22 128 = q_ := ⟨_, rfl⟩
  obtain ⟨m2, hm2⟩ : ∃ q_, writeV m1 10 128 = q_ := ⟨_, rfl⟩
  obtain ⟨m3, hm3⟩ : ∃ q_, writeV m2 17 240 = q_ := ⟨_, rfl⟩
  obtain ⟨m4, hm4⟩ : ∃ q_, writeV m3 16 x = q_ := ⟨_, rfl⟩
  obtain ⟨m5, hm5⟩ : ∃ q_, writeV m4 19 128 = q_ := ⟨_, rfl⟩
  have k1 : okM m1 := hm1 ▸ ok_write ok_zero 22 128 (by decide) (by decide)
  have k2 : okM m2 := hm2 ▸ ok_write k1 10 128 (by decide) (by decide)
  have k3 : okM m3 := hm3 ▸ ok_write k2 17 240 (by decide) (by decide)
  have k4 : okM m4 := hm4 ▸ ok_write k3 16 x (by omega) (by omega)
  have k5 : okM m5 := hm5 ▸ ok_write k4 19 128 (by decide) (by decide)
  have C1 := Lib.hid (fun W => write_c zeroM ok_zero 22 128 (by decide) (by decide) W)
  have C2 := Lib.hid (fun W => write_c m1 k1 10 128 (by decide) (by decide) W)
  have C3 := Lib.hid (fun W => write_c m2 k2 17 240 (by decide) (by decide) W)
  have C4 := Lib.hid (fun W => write_c m3 k3 16 x (by omega) (by omega) W)
  have C5 := Lib.hid (fun W => write_c m4 k4 19 128 (by decide) (by decide) W)
  rw [hm1] at C1
  rw [hm2] at C2
  rw [hm3] at C3
  rw [hm4] at C4
  rw [hm5] at C5
  obtain ⟨L, hL⟩ : ∃ L : Nat, (64 - x % 64) = (L : Int) := ⟨((64 - x % 64) : Int).toNat, by omega⟩
  have LB : 0 < L ∧ L ≤ 64 := by omega
  have e5 : m5 = lenM 3 x 128 := by rw [← hm5, ← hm4, ← hm3, ← hm2, ← hm1]; rfl
  have q5 := len_init 3 (by omega) x 128 0 (by decide) (by decide) (L : Int) (by rw [← hL]; rfl) (by omega)
  rw [← e5] at q5
  obtain ⟨q1, q2, q3, q4⟩ := q5
  have OI := Lib.hid (fun t => ok_it k5 t)
  obtain ⟨T, hT⟩ : ∃ q_, 140 = q_ := ⟨_, rfl⟩
  have TB : T ≤ 140 ∧ 0 < T := by omega
  have ON : ∀ j, j ≤ T → itN m5 (2048 * j) 63 = 1 := fun j hj => (cnt_free q1 (by omega) q2 q3 j).2.2
  have SO := Lib.hid ON
  have HT := Lib.hid hT
  have i4 : (vn : Int) % 4 = 3 := by omega
  have i4t : (vn : Int).tmod 4 = 3 := by rw [Int.tmod_eq_emod_of_nonneg (by omega)]; exact i4
  clear hm1 hm2 hm3 hm4 hm5 k1 k2 k3 k4 k5 e5 q1 q2 q3 q4 ON hT hv
  have hz29 : ∀ w : World, (zeroValue 29).run Tryd.prog w = .ok (.agg (enc zeroM)) w := zero29
  have hnot : ∀ (x : Bool) (w : World), (Op.unary .not (.bool x)).run Tryd.prog w = .ok (.bool (!x)) w := fun _ _ => rfl
  go_enter Tryd.func4, Tryd.ntmps4
  go_wp2_with (fail)
  with_reducible refine (AW.out _ (HG.out.below N0.out BB.out)).mono ?_
  rintro q_ u1 ⟨rfl, hb⟩
  have B1 := Lib.hid (vian HN.out BB.out hb)
  clear hb 
  go_wp2_with (fail)
  with_reducible refine (C1.out _).mono ?_
  rintro q_ u2 ⟨rfl, hb⟩
  have B2 := Lib.hid (vian HN.out B1.out hb)
  clear hb B1
  go_wp2_with (fail)
  with_reducible refine (C2.out _).mono ?_
  rintro q_ u3 ⟨rfl, hb⟩
  have B3 := Lib.hid (vian HN.out B2.out hb)
  clear hb B2
  go_wp2_with (refine store_b (Has.new u3 (enc zeroM) 29) (m2) rfl _ _ rfl rfl rfl ?_)
  intro u4 hP hk
  have Q_ := own1 u3 (.cells (enc zeroM) 29)
  have LP := Lib.hid (show n_ ≤ u3.heap.size from Nat.le_trans HN.out B3.out.size)
  have B4 := Lib.hid (hk.below HN.out LP.out (vian HN.out B3.out Q_))
  have P4 := Lib.hid hP
  generalize u3.heap.size = pb at LP  P4 ⊢
  clear hk hP Q_ B3
  try simp only [Act.put, List.setIfInBounds_toArray, List.set_cons_zero, List.set_cons_succ]
  go_wp2_with (first | ((first | (refine load_b P4.out rfl _ rfl rfl ?_) | (refine load_bg P4.out rfl _ rfl rfl ?_)); simp only [Act.put, List.setIfInBounds_toArray, List.set_cons_zero, List.set_cons_succ]))
  with_reducible refine (C3.out _).mono ?_
  rintro q_ u5 ⟨rfl, hb⟩
  have B5 := Lib.hid (vian HN.out B4.out hb)
  have P5 := Lib.hid (P4.out.below hb)
  clear hb B4 P4
  go_wp2_with (fail)
  with_reducible refine (C4.out _).mono ?_
  rintro q_ u6 ⟨rfl, hb⟩
  have B6 := Lib.hid (vian HN.out B5.out hb)
  have P6 := Lib.hid (P5.out.below hb)
  clear hb B5 P5
  go_wp2_with (refine store_b P6.out (m4) rfl _ _ rfl rfl rfl ?_)
  intro u7 hP hk
  have P7 := Lib.hid hP
  have B7 := Lib.hid (hk.below HN.out LP.out B6.out)
  clear hk hP B6 P6
  try simp only [Act.put]
  go_wp2_with (first | ((first | (refine load_b P7.out rfl _ rfl rfl ?_) | (refine load_bg P7.out rfl _ rfl rfl ?_)); simp only [Act.put, List.setIfInBounds_toArray, List.set_cons_zero, List.set_cons_succ]))
  with_reducible refine (C5.out _).mono ?_
  rintro q_ u8 ⟨rfl, hb⟩
  have B8 := Lib.hid (vian HN.out B7.out hb)
  have P8 := Lib.hid (P7.out.below hb)
  clear hb B7 P7
  go_wp2_with (refine store_b P8.out (m5) rfl _ _ rfl rfl rfl ?_)
  intro u9 hP hk
  have P9 := Lib.hid hP
  have B9 := Lib.hid (hk.below HN.out LP.out B8.out)
  clear hk hP B8 P8
  try simp only [Act.put]
  go_upto_region 15 with (fail)
  go_loopg [11] T (fun g' i w5 => ∃ (j : Nat), j ≤ T ∧ g' + j = T ∧ i = .int .i64 j ∧ Below n_ W0 w5 ∧ Has w5 pb (enc (itN m5 (2048 * j))))
  case atStart => exact ⟨0, by omega, by omega, rfl, B9.out, P9.out⟩
  case round =>
    obtain ⟨u20, hw7⟩ : ∃ q_, q_ = wr := ⟨_, rfl⟩
    subst hw7
    obtain ⟨j, hj, hg, rfl, hB, hP⟩ := hrel
    have JG := Lib.hid hg
    have B20 := Lib.hid hB
    have P20 := Lib.hid hP
    clear hg hB hP B9 P9
    have hon := SO.out j hj
    have HJ := Lib.hid (fun s => itN_add m5 (2048 * j) s)
    have OJ := Lib.hid (fun s => ok_it (OI.out (2048 * j)) s)
    have HX := Lib.hid (itN_mul m5 2048 j)
    obtain ⟨mj, hmj⟩ : ∃ q_, itN m5 (2048 * j) = q_ := ⟨_, rfl⟩
    rw [hmj] at P20 hon OJ HX
    clear hmj HJ
    by_cases hlt : j < T
    · have d140 : decide ((j : Int) < 140) = true := by simp; omega
      have eo : (enc mj)[63]? = some (.bool true) := by rw [enc_b _ _ rfl (by omega), hon]; rfl
      obtain ⟨hc, hf⟩ := P20.out.out
      go_upto_region 17 with (fail)
      clear hc hf eo hon
      go_loopg [52] 2048 (fun g' i w5 => ∃ (s : Nat), s ≤ 2048 ∧ g' + s = 2048 ∧ i = .int .i64 s ∧ Below n_ W0 w5 ∧ Has w5 pb (enc (itN mj s)))
      case atStart => exact ⟨0, by omega, by omega, rfl, B20.out, P20.out⟩
      case round =>
        obtain ⟨u30, hw7⟩ : ∃ q_, q_ = wr := ⟨_, rfl⟩
        subst hw7
        obtain ⟨s, hs, hg, rfl, hB, hP⟩ := hrel
        have SG := Lib.hid hg
        have B30 := Lib.hid hB
        have P30 := Lib.hid hP
        clear hg hB hP B20 P20
        by_cases hls : s < 2048
        · have l2 : (s : Int) < 2048 := by omega
          have SC := Lib.hid (fun W => tick_c (itN mj s) (OJ.out s) W)
          obtain ⟨ma, hm1⟩ : ∃ q_, itN mj s = q_ := ⟨_, rfl⟩
          obtain ⟨mb, hm2⟩ : ∃ q_, itN mj (s + 1) = q_ := ⟨_, rfl⟩
          have hm3 : tickV (itN mj s) = mb := hm2
          rw [hm3] at SC
          rw [hm1] at SC P30
          have HM := Lib.hid hm2
          clear hm1 hm2 hm3
          go_wp2_with (first | ((first | (refine load_b P30.out rfl _ rfl rfl ?_) | (refine load_bg P30.out rfl _ rfl rfl ?_)); simp only [Act.put, List.setIfInBounds_toArray, List.set_cons_zero, List.set_cons_succ]))
          with_reducible refine (SC.out _).mono ?_
          rintro q_ u31 ⟨rfl, hb⟩
          have B31 := Lib.hid (vian HN.out B30.out hb)
          have P31 := Lib.hid (P30.out.below hb)
          clear hb B30 P30
          go_wp2_with (refine store_b P31.out (mb) rfl _ _ rfl rfl rfl ?_)
          intro u32 hP hk
          have P32 := Lib.hid hP
          have B32 := Lib.hid (hk.below HN.out LP.out B31.out)
          clear hk hP B31 P31
          try simp only [Act.put]
          go_wp2
          go_roundg (2048 - (s + 1))
          case measure => have := SG.out; omega
          case rel => exact ⟨s + 1, by omega, by have := SG.out; omega, by simp, B32.out, by rw [HM.out]; exact P32.out⟩
        · have te : s = 2048 := by omega
          subst te
          have l2 : ¬ ((2048 : Nat) : Int) < 2048 := by omega
          go_wp2
          go_roundg (T - (j + 1))
          case measure => have := JG.out; omega
          case rel => exact ⟨j + 1, by omega, by have := JG.out; omega, by simp, B30.out, by rw [HX.out]; exact P30.out⟩
    · have te : j = T := by omega
      subst te
      have jT := HT.out
      have eo : (enc mj)[63]? = some (.bool true) := by rw [enc_b _ _ rfl (by omega), hon]; rfl
      have d140 : decide ((j : Int) < 140) = false := by simp; omega
      have cmp : ((j : Int) == 140) = true := by simp; omega
      clear hon jT
      obtain ⟨hc, hf⟩ := P20.out.out
      go_wp2
      all_goals exact bodyPost_ret (v := .bool true) (by simp [results, Tryd.results4, go_sem]) rfl ⟨rfl, B20.out⟩
theorem lengths_walk (vn : Nat) (x : Int) (z : Bool) (hv : vn < 256) (g0 : 0 ≤ x) (g1 : x < 256) (w : World) (hg : Glob w) :
    Calls Tryd.prog 4 #[.int .u8 vn, .int .u8 x, .bool z] w fun q_ w' => q_ = .returned (.bool true) ∧ Below w.heap.size w w' := by
  have h4 : vn % 4 = 0 ∨ vn % 4 = 1 ∨ vn % 4 = 2 ∨ vn % 4 = 3 := by omega
  cases z <;> rcases h4 with h | h | h | h
  · exact lengths_00 vn x h hv g0 g1 w hg
  · exact lengths_10 vn x h hv g0 g1 w hg
  · exact lengths_20 vn x h hv g0 g1 w hg
  · exact lengths_30 vn x h hv g0 g1 w hg
  · exact lengths_01 vn x h hv g0 g1 w hg
  · exact lengths_11 vn x h hv g0 g1 w hg
  · exact lengths_21 vn x h hv g0 g1 w hg
  · exact lengths_31 vn x h hv g0 g1 w hg
end Go.Proofs.YtonmnpadmphbdaaDoor
