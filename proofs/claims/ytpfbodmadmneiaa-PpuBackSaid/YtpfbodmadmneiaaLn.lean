/-
  A line, as the program and as the document paint it: for every view, every line and every memory of at most 8192 bytes.
-/
import Derived.Test.YtpfbodmadmneiaaPl
import Derived.Test.YtpfbodmadmneiaaVl
import Derived.Deep.Cut
import Derived.BigQuiet
import Derived.WalkSmall
import Derived.Deep.LoopGhost
namespace Go.Proofs.Ytpfbodmadmneiaa
open Go.ChangeShapes Go.WideShapes Go.ChangeAt Go.RowKit
set_option linter.unusedVariables false
set_option linter.unusedSimpArgs false
set_option maxRecDepth 100000
set_option maxHeartbeats 2000000 in
theorem line_dark (c sx sy wx wy : Int) (c0 : 0 ≤ c) (c1 : c < 256) (sx0 : 0 ≤ sx) (sx1 : sx < 256) (sy0 : 0 ≤ sy) (sy1 : sy < 256) (wx0 : 0 ≤ wx) (wx1 : wx < 256) (wy0 : 0 ≤ wy) (wy1 : wy < 256) (s : Value) (F : M) (line ow : Int) (line0 : -9223372036854775808 ≤ line) (line1 : line ≤ 9223372036854775807) (ow0 : -9223372036854775808 ≤ ow) (ow1 : ow ≤ 9223372036854775807) (hd : bit c 0 = 0) (w : World) (hM0 : Mem w s F) : Calls Try.prog 57 #[.agg #[.int .u8 c, .int .u8 sx, .int .u8 sy, .int .u8 wx, .int .u8 wy], s, .int .i64 line, .int .i64 ow] w fun q_ w' => q_ = .returned (.tuple #[.agg (enc zeroM), .bool false]) ∧ Below w.heap.size w w' := by
  suffices hall : ∀ (n_ : Nat) (W0 : World), n_ ≤ W0.heap.size → Below n_ W0 w → MemB n_ W0 s F → Calls Try.prog 57 #[.agg #[.int .u8 c, .int .u8 sx, .int .u8 sy, .int .u8 wx, .int .u8 wy], s, .int .i64 line, .int .i64 ow] w fun q_ w' => q_ = .returned (.tuple #[.agg (enc zeroM), .bool false]) ∧ Below n_ W0 w' from hall _ _ (Nat.le_refl _) (Below.refl _ _) hM0
  clear hM0
  intro n_ W0 hn hB hM0
  have HN := Lib.hid hn
  have BB := Lib.hid hB
  clear hn hB
  have HM0 := Lib.hid hM0
  clear hM0
  have ea := an0 c c0 c1
  rw [hd] at ea
  clear hd
  have hz34 : ∀ w : World, (zeroValue 34).run Try.prog w = .ok (.agg (enc zeroM)) w := zero34
  go_enter Try.func57, Try.ntmps57
  have Q_ := own3 w (.cells #[.int .u8 c, .int .u8 sx, .int .u8 sy, .int .u8 wx, .int .u8 wy] 80) (.cells (enc zeroM) 34) (.cells (enc zeroM) 34)
  have B0 := Lib.hid (vian HN.out BB.out Q_)
  have P0 := Lib.hid (show Has (((w.alloc (.cells #[.int .u8 c, .int .u8 sx, .int .u8 sy, .int .u8 wx, .int .u8 wy] 80)).alloc (.cells (enc zeroM) 34)).alloc (.cells (enc zeroM) 34)) w.heap.size #[.int .u8 c, .int .u8 sx, .int .u8 sy, .int .u8 wx, .int .u8 wy] by simpa using ((Has.new w #[.int .u8 c, .int .u8 sx, .int .u8 sy, .int .u8 wx, .int .u8 wy] 80).alloc (.cells (enc zeroM) 34)).alloc (.cells (enc zeroM) 34))
  have LP := Lib.hid (show n_ ≤ w.heap.size + 0 from Nat.le_add_right_of_le (Nat.le_trans HN.out BB.out.size))
  have R0 := Lib.hid (show Has (((w.alloc (.cells #[.int .u8 c, .int .u8 sx, .int .u8 sy, .int .u8 wx, .int .u8 wy] 80)).alloc (.cells (enc zeroM) 34)).alloc (.cells (enc zeroM) 34)) (w.heap.size + 1) (enc zeroM) by simpa using (Has.new (w.alloc (.cells #[.int .u8 c, .int .u8 sx, .int .u8 sy, .int .u8 wx, .int .u8 wy] 80)) (enc zeroM) 34).alloc (.cells (enc zeroM) 34))
  have LR := Lib.hid (show n_ ≤ (w.heap.size + 1) from Nat.le_add_right_of_le (Nat.le_trans HN.out BB.out.size))
  have L0 := Lib.hid (show Has (((w.alloc (.cells #[.int .u8 c, .int .u8 sx, .int .u8 sy, .int .u8 wx, .int .u8 wy] 80)).alloc (.cells (enc zeroM) 34)).alloc (.cells (enc zeroM) 34)) (w.heap.size + 2) (enc zeroM) by simpa using Has.new ((w.alloc (.cells #[.int .u8 c, .int .u8 sx, .int .u8 sy, .int .u8 wx, .int .u8 wy] 80)).alloc (.cells (enc zeroM) 34)) (enc zeroM) 34)
  have LL := Lib.hid (show n_ ≤ (w.heap.size + 2) from Nat.le_add_right_of_le (Nat.le_trans HN.out BB.out.size))
  have NPR := Lib.hid (show w.heap.size + 0 ≠ w.heap.size + 1 by omega)
  have NPL := Lib.hid (show w.heap.size + 0 ≠ w.heap.size + 2 by omega)
  have NRL := Lib.hid (show w.heap.size + 1 ≠ w.heap.size + 2 by omega)
  simp only [Nat.add_zero] at LP NPR NPL
  clear Q_
  go_upto_region 2 with (fail)
  generalize (((w.alloc (.cells #[.int .u8 c, .int .u8 sx, .int .u8 sy, .int .u8 wx, .int .u8 wy] 80)).alloc (.cells (enc zeroM) 34)).alloc (.cells (enc zeroM) 34)) = u0 at B0 P0 R0 L0 ⊢
  generalize w.heap.size + 2 = lb at L0 LL NPL NRL ⊢
  generalize w.heap.size + 1 = rb at R0 LR NPR NRL ⊢
  generalize w.heap.size = pb at P0 LP NPR NPL ⊢
  obtain ⟨hc0, hf0⟩ := P0.out.out
  go_upto_region 3 with (fail)
  clear hc0 hf0
  go_wp2_with (first | (refine load_b L0.out rfl _ rfl rfl ?_; simp only [Act.put, List.setIfInBounds_toArray, List.set_cons_zero, List.set_cons_succ]) | (refine store_b R0.out (zeroM) rfl _ _ rfl rfl rfl ?_))
  intro u1 hP hk
  have R1 := Lib.hid hP
  have B1 := Lib.hid (hk.below HN.out LR.out B0.out)
  have P1 := Lib.hid (hk.has NPR.out P0.out)
  have L1 := Lib.hid (hk.has (Ne.symm NRL.out) L0.out)
  clear hk hP B0 P0 R0 L0
  try simp only [Act.put]
  go_wp2_with (fail)
  exact bodyPost_ret (results_2 rfl _ rfl rfl R1.out) rfl ⟨rfl, B1.out⟩
set_option maxHeartbeats 8000000 in
theorem line_lit (c sx sy wx wy : Int) (c0 : 0 ≤ c) (c1 : c < 256) (sx0 : 0 ≤ sx) (sx1 : sx < 256) (sy0 : 0 ≤ sy) (sy1 : sy < 256) (wx0 : 0 ≤ wx) (wx1 : wx < 256) (wy0 : 0 ≤ wy) (wy1 : wy < 256) (s : Value) (F : M) (line ow : Int) (line0 : -9223372036854775808 ≤ line) (line1 : line ≤ 9223372036854775807) (ow0 : -9223372036854775808 ≤ ow) (ow1 : ow ≤ 9223372036854775807) (hd : bit c 0 = 1) (w : World) (hM0 : Mem w s F) : Calls Try.prog 57 #[.agg #[.int .u8 c, .int .u8 sx, .int .u8 sy, .int .u8 wx, .int .u8 wy], s, .int .i64 line, .int .i64 ow] w fun q_ w' => q_ = .returned (.tuple #[.agg (enc (firstN (lineV F c sx sy wx wy line ow) 160)), .bool (reachV c wx wy line)]) ∧ Below w.heap.size w w' := by
  suffices hall : ∀ (n_ : Nat) (W0 : World), n_ ≤ W0.heap.size → Below n_ W0 w → MemB n_ W0 s F → Calls Try.prog 57 #[.agg #[.int .u8 c, .int .u8 sx, .int .u8 sy, .int .u8 wx, .int .u8 wy], s, .int .i64 line, .int .i64 ow] w fun q_ w' => q_ = .returned (.tuple #[.agg (enc (firstN (lineV F c sx sy wx wy line ow) 160)), .bool (reachV c wx wy line)]) ∧ Below n_ W0 w' from hall _ _ (Nat.le_refl _) (Below.refl _ _) hM0
  clear hM0
  intro n_ W0 hn hB hM0
  have HN := Lib.hid hn
  have BB := Lib.hid hB
  clear hn hB
  have HM0 := Lib.hid hM0
  clear hM0
  have ea := an0 c c0 c1
  rw [hd] at ea
  have SV := Lib.hid (fun W => reach_c c sx sy wx wy c0 c1 sx0 sx1 sy0 sy1 wx0 wx1 wy0 wy1 line line0 line1 W)
  clear hd
  have HW := Lib.hid (show ∀ t : Nat, reachV c wx wy line = true → 0 ≤ (t : Int) + 7 - wx → (lineV F c sx sy wx wy line ow) t = winV F c ((t : Int) + 7 - wx) ow from fun t h1 h2 => if_pos ⟨h1, h2⟩)
  have HB := Lib.hid (show ∀ t : Nat, ¬ (reachV c wx wy line = true ∧ 0 ≤ (t : Int) + 7 - wx) → (lineV F c sx sy wx wy line ow) t = backV F c sx sy t line from fun t h1 => if_neg h1)
  have SW := Lib.hid (fun W (y : Int) (y0 : -300 < y) (y1 : y < 300) h => win_c c sx sy wx wy c0 c1 sx0 sx1 sy0 sy1 wx0 wx1 wy0 wy1 s F y ow (by omega) (by omega) ow0 ow1 W h)
  have SK := Lib.hid (fun W (y : Int) (y0 : -300 < y) (y1 : y < 300) h => back_c c sx sy wx wy c0 c1 sx0 sx1 sy0 sy1 wx0 wx1 wy0 wy1 s F y line (by omega) (by omega) line0 line1 W h)
  obtain ⟨v, hv⟩ : ∃ q_, q_ = reachV c wx wy line := ⟨_, rfl⟩
  rw [← hv] at SV HW HB ⊢
  obtain ⟨LL2, hL⟩ : ∃ q_, q_ = lineV F c sx sy wx wy line ow := ⟨_, rfl⟩
  rw [← hL] at HW HB ⊢
  clear hv hL
  cases v
  · skip
    have hz34 : ∀ w : World, (zeroValue 34).run Try.prog w = .ok (.agg (enc zeroM)) w := zero34
    go_enter Try.func57, Try.ntmps57
    have Q_ := own3 w (.cells #[.int .u8 c, .int .u8 sx, .int .u8 sy, .int .u8 wx, .int .u8 wy] 80) (.cells (enc zeroM) 34) (.cells (enc zeroM) 34)
    have B0 := Lib.hid (vian HN.out BB.out Q_)
    have P0 := Lib.hid (show Has (((w.alloc (.cells #[.int .u8 c, .int .u8 sx, .int .u8 sy, .int .u8 wx, .int .u8 wy] 80)).alloc (.cells (enc zeroM) 34)).alloc (.cells (enc zeroM) 34)) w.heap.size #[.int .u8 c, .int .u8 sx, .int .u8 sy, .int .u8 wx, .int .u8 wy] by simpa using ((Has.new w #[.int .u8 c, .int .u8 sx, .int .u8 sy, .int .u8 wx, .int .u8 wy] 80).alloc (.cells (enc zeroM) 34)).alloc (.cells (enc zeroM) 34))
    have LP := Lib.hid (show n_ ≤ w.heap.size + 0 from Nat.le_add_right_of_le (Nat.le_trans HN.out BB.out.size))
    have R0 := Lib.hid (show Has (((w.alloc (.cells #[.int .u8 c, .int .u8 sx, .int .u8 sy, .int .u8 wx, .int .u8 wy] 80)).alloc (.cells (enc zeroM) 34)).alloc (.cells (enc zeroM) 34)) (w.heap.size + 1) (enc zeroM) by simpa using (Has.new (w.alloc (.cells #[.int .u8 c, .int .u8 sx, .int .u8 sy, .int .u8 wx, .int .u8 wy] 80)) (enc zeroM) 34).alloc (.cells (enc zeroM) 34))
    have LR := Lib.hid (show n_ ≤ (w.heap.size + 1) from Nat.le_add_right_of_le (Nat.le_trans HN.out BB.out.size))
    have L0 := Lib.hid (show Has (((w.alloc (.cells #[.int .u8 c, .int .u8 sx, .int .u8 sy, .int .u8 wx, .int .u8 wy] 80)).alloc (.cells (enc zeroM) 34)).alloc (.cells (enc zeroM) 34)) (w.heap.size + 2) (enc zeroM) by simpa using Has.new ((w.alloc (.cells #[.int .u8 c, .int .u8 sx, .int .u8 sy, .int .u8 wx, .int .u8 wy] 80)).alloc (.cells (enc zeroM) 34)) (enc zeroM) 34)
    have LL := Lib.hid (show n_ ≤ (w.heap.size + 2) from Nat.le_add_right_of_le (Nat.le_trans HN.out BB.out.size))
    have NPR := Lib.hid (show w.heap.size + 0 ≠ w.heap.size + 1 by omega)
    have NPL := Lib.hid (show w.heap.size + 0 ≠ w.heap.size + 2 by omega)
    have NRL := Lib.hid (show w.heap.size + 1 ≠ w.heap.size + 2 by omega)
    simp only [Nat.add_zero] at LP NPR NPL
    clear Q_
    go_upto_region 2 with (fail)
    generalize (((w.alloc (.cells #[.int .u8 c, .int .u8 sx, .int .u8 sy, .int .u8 wx, .int .u8 wy] 80)).alloc (.cells (enc zeroM) 34)).alloc (.cells (enc zeroM) 34)) = u0 at B0 P0 R0 L0 ⊢
    generalize w.heap.size + 2 = lb at L0 LL NPL NRL ⊢
    generalize w.heap.size + 1 = rb at R0 LR NPR NRL ⊢
    generalize w.heap.size = pb at P0 LP NPR NPL ⊢
    obtain ⟨hc0, hf0⟩ := P0.out.out
    go_wp2_with (fail)
    clear hc0 hf0
    with_reducible refine (SV.out _).mono ?_
    rintro q_ u1 ⟨rfl, hb⟩
    have B1 := Lib.hid (vian HN.out B0.out hb)
    have P1 := Lib.hid (P0.out.below hb)
    have R1 := Lib.hid (R0.out.below hb)
    have L1 := Lib.hid (L0.out.below hb)
    clear hb B0 P0 R0 L0
    go_wp2_with (fail)
    go_loopg [22] 160 (fun g' i w5 => ∃ (t : Nat), t ≤ 160 ∧ g' + t = 160 ∧ i = .int .i64 t ∧ Below n_ W0 w5 ∧ Has w5 pb #[.int .u8 c, .int .u8 sx, .int .u8 sy, .int .u8 wx, .int .u8 wy] ∧ Has w5 rb (enc zeroM) ∧ Has w5 lb (enc (firstN LL2 t)))
    case atStart => exact ⟨0, by omega, by omega, rfl, B1.out, P1.out, R1.out, by rw [first_zero]; exact L1.out⟩
    case round =>
      obtain ⟨u20, hw5⟩ : ∃ q_, q_ = wr := ⟨_, rfl⟩
      subst hw5
      obtain ⟨t, ht, hg, rfl, hB, hP, hR, hL⟩ := hrel
      have TG := Lib.hid hg
      have B20 := Lib.hid hB
      have P20 := Lib.hid hP
      have R20 := Lib.hid hR
      have L20 := Lib.hid hL
      clear hg hB hP hR hL B1 P1 R1 L1
      by_cases hlt : t < 160
      · skip
        have l1 : (t : Int) < 160 := by omega
        have l0 : (0 : Int) ≤ t := by omega
        have HS := Lib.hid (first_succ LL2 t)
        have ez := HB.out t (by simp)
        rw [ez] at HS
        clear ez
        obtain ⟨m, hm⟩ : ∃ q_, q_ = firstN LL2 t := ⟨_, rfl⟩
        rw [← hm] at HS L20
        clear hm
        have SC := Lib.hid (fun W h => SK.out W (t : Int) (by omega) (by omega) h)
        have zb := backV_bd F c sx sy t line
        obtain ⟨z, hz⟩ : ∃ q_, q_ = backV F c sx sy t line := ⟨_, rfl⟩
        rw [← hz] at SC HS zb
        clear hz
        obtain ⟨hc0, hf0⟩ := P20.out.out
        go_wp2_with (fail)
        clear hc0 hf0
        with_reducible refine (SC.out _ (HM0.out.at HN.out B20.out)).mono ?_
        rintro q_ u21 ⟨rfl, hb⟩
        have B21 := Lib.hid (vian HN.out B20.out hb)
        have P21 := Lib.hid (P20.out.below hb)
        have R21 := Lib.hid (R20.out.below hb)
        have L21 := Lib.hid (L20.out.below hb)
        clear hb B20 P20 R20 L20
        go_wp2_with (refine store_u L21.out rfl _ _ rfl _ rfl _ rfl (by omega) ?_)
        intro u22 hP hk
        rw [HS.out] at hP
        have L22 := Lib.hid hP
        have B22 := Lib.hid (hk.below HN.out LL.out B21.out)
        have P22 := Lib.hid (hk.has NPL.out P21.out)
        have R22 := Lib.hid (hk.has NRL.out R21.out)
        clear hk hP B21 P21 R21 L21
        try simp only [Act.put]
        go_wp2_with (fail)
        go_roundg (160 - (t + 1))
        case measure => have := TG.out; omega
        case rel => exact ⟨t + 1, by omega, by have := TG.out; omega, by simp, B22.out, P22.out, R22.out, L22.out⟩
      · skip
        have te : t = 160 := by omega
        subst te
        have l1 : ¬ ((160 : Nat) : Int) < 160 := by omega
        go_wp2_with (first | (refine load_b L20.out rfl _ rfl rfl ?_; simp only [Act.put, List.setIfInBounds_toArray, List.set_cons_zero, List.set_cons_succ]) | (refine store_b R20.out (firstN LL2 160) rfl _ _ rfl rfl rfl ?_))
        intro u21 hP hk
        have R21 := Lib.hid hP
        have B21 := Lib.hid (hk.below HN.out LR.out B20.out)
        have P21 := Lib.hid (hk.has NPR.out P20.out)
        have L21 := Lib.hid (hk.has (Ne.symm NRL.out) L20.out)
        clear hk hP B20 P20 R20 L20
        try simp only [Act.put]
        go_wp2_with (fail)
        exact bodyPost_ret (results_2 rfl _ rfl rfl R21.out) rfl ⟨rfl, B21.out⟩
  · skip
    have hz34 : ∀ w : World, (zeroValue 34).run Try.prog w = .ok (.agg (enc zeroM)) w := zero34
    go_enter Try.func57, Try.ntmps57
    have Q_ := own3 w (.cells #[.int .u8 c, .int .u8 sx, .int .u8 sy, .int .u8 wx, .int .u8 wy] 80) (.cells (enc zeroM) 34) (.cells (enc zeroM) 34)
    have B0 := Lib.hid (vian HN.out BB.out Q_)
    have P0 := Lib.hid (show Has (((w.alloc (.cells #[.int .u8 c, .int .u8 sx, .int .u8 sy, .int .u8 wx, .int .u8 wy] 80)).alloc (.cells (enc zeroM) 34)).alloc (.cells (enc zeroM) 34)) w.heap.size #[.int .u8 c, .int .u8 sx, .int .u8 sy, .int .u8 wx, .int .u8 wy] by simpa using ((Has.new w #[.int .u8 c, .int .u8 sx, .int .u8 sy, .int .u8 wx, .int .u8 wy] 80).alloc (.cells (enc zeroM) 34)).alloc (.cells (enc zeroM) 34))
    have LP := Lib.hid (show n_ ≤ w.heap.size + 0 from Nat.le_add_right_of_le (Nat.le_trans HN.out BB.out.size))
    have R0 := Lib.hid (show Has (((w.alloc (.cells #[.int .u8 c, .int .u8 sx, .int .u8 sy, .int .u8 wx, .int .u8 wy] 80)).alloc (.cells (enc zeroM) 34)).alloc (.cells (enc zeroM) 34)) (w.heap.size + 1) (enc zeroM) by simpa using (Has.new (w.alloc (.cells #[.int .u8 c, .int .u8 sx, .int .u8 sy, .int .u8 wx, .int .u8 wy] 80)) (enc zeroM) 34).alloc (.cells (enc zeroM) 34))
    have LR := Lib.hid (show n_ ≤ (w.heap.size + 1) from Nat.le_add_right_of_le (Nat.le_trans HN.out BB.out.size))
    have L0 := Lib.hid (show Has (((w.alloc (.cells #[.int .u8 c, .int .u8 sx, .int .u8 sy, .int .u8 wx, .int .u8 wy] 80)).alloc (.cells (enc zeroM) 34)).alloc (.cells (enc zeroM) 34)) (w.heap.size + 2) (enc zeroM) by simpa using Has.new ((w.alloc (.cells #[.int .u8 c, .int .u8 sx, .int .u8 sy, .int .u8 wx, .int .u8 wy] 80)).alloc (.cells (enc zeroM) 34)) (enc zeroM) 34)
    have LL := Lib.hid (show n_ ≤ (w.heap.size + 2) from Nat.le_add_right_of_le (Nat.le_trans HN.out BB.out.size))
    have NPR := Lib.hid (show w.heap.size + 0 ≠ w.heap.size + 1 by omega)
    have NPL := Lib.hid (show w.heap.size + 0 ≠ w.heap.size + 2 by omega)
    have NRL := Lib.hid (show w.heap.size + 1 ≠ w.heap.size + 2 by omega)
    simp only [Nat.add_zero] at LP NPR NPL
    clear Q_
    go_upto_region 2 with (fail)
    generalize (((w.alloc (.cells #[.int .u8 c, .int .u8 sx, .int .u8 sy, .int .u8 wx, .int .u8 wy] 80)).alloc (.cells (enc zeroM) 34)).alloc (.cells (enc zeroM) 34)) = u0 at B0 P0 R0 L0 ⊢
    generalize w.heap.size + 2 = lb at L0 LL NPL NRL ⊢
    generalize w.heap.size + 1 = rb at R0 LR NPR NRL ⊢
    generalize w.heap.size = pb at P0 LP NPR NPL ⊢
    obtain ⟨hc0, hf0⟩ := P0.out.out
    go_wp2_with (fail)
    clear hc0 hf0
    with_reducible refine (SV.out _).mono ?_
    rintro q_ u1 ⟨rfl, hb⟩
    have B1 := Lib.hid (vian HN.out B0.out hb)
    have P1 := Lib.hid (P0.out.below hb)
    have R1 := Lib.hid (R0.out.below hb)
    have L1 := Lib.hid (L0.out.below hb)
    clear hb B0 P0 R0 L0
    go_wp2_with (fail)
    go_loopg [22] 160 (fun g' i w5 => ∃ (t : Nat), t ≤ 160 ∧ g' + t = 160 ∧ i = .int .i64 t ∧ Below n_ W0 w5 ∧ Has w5 pb #[.int .u8 c, .int .u8 sx, .int .u8 sy, .int .u8 wx, .int .u8 wy] ∧ Has w5 rb (enc zeroM) ∧ Has w5 lb (enc (firstN LL2 t)))
    case atStart => exact ⟨0, by omega, by omega, rfl, B1.out, P1.out, R1.out, by rw [first_zero]; exact L1.out⟩
    case round =>
      obtain ⟨u20, hw5⟩ : ∃ q_, q_ = wr := ⟨_, rfl⟩
      subst hw5
      obtain ⟨t, ht, hg, rfl, hB, hP, hR, hL⟩ := hrel
      have TG := Lib.hid hg
      have B20 := Lib.hid hB
      have P20 := Lib.hid hP
      have R20 := Lib.hid hR
      have L20 := Lib.hid hL
      clear hg hB hP hR hL B1 P1 R1 L1
      by_cases hlt : t < 160
      · skip
        have l1 : (t : Int) < 160 := by omega
        have l0 : (0 : Int) ≤ t := by omega
        have HS := Lib.hid (first_succ LL2 t)
        by_cases h2 : 0 ≤ (t : Int) + 7 - wx
        · skip
          have ez := HW.out t (by first | rfl | trivial) h2
          rw [ez] at HS
          clear ez
          obtain ⟨m, hm⟩ : ∃ q_, q_ = firstN LL2 t := ⟨_, rfl⟩
          rw [← hm] at HS L20
          clear hm
          have SC := Lib.hid (fun W h => SW.out W ((t : Int) + 7 - wx) (by omega) (by omega) h)
          have zb := winV_bd F c ((t : Int) + 7 - wx) ow
          obtain ⟨z, hz⟩ : ∃ q_, q_ = winV F c ((t : Int) + 7 - wx) ow := ⟨_, rfl⟩
          rw [← hz] at SC HS zb
          clear hz
          obtain ⟨hc0, hf0⟩ := P20.out.out
          go_wp2_with (fail)
          clear hc0 hf0
          with_reducible refine (SC.out _ (HM0.out.at HN.out B20.out)).mono ?_
          rintro q_ u21 ⟨rfl, hb⟩
          have B21 := Lib.hid (vian HN.out B20.out hb)
          have P21 := Lib.hid (P20.out.below hb)
          have R21 := Lib.hid (R20.out.below hb)
          have L21 := Lib.hid (L20.out.below hb)
          clear hb B20 P20 R20 L20
          go_wp2_with (refine store_u L21.out rfl _ _ rfl _ rfl _ rfl (by omega) ?_)
          intro u22 hP hk
          rw [HS.out] at hP
          have L22 := Lib.hid hP
          have B22 := Lib.hid (hk.below HN.out LL.out B21.out)
          have P22 := Lib.hid (hk.has NPL.out P21.out)
          have R22 := Lib.hid (hk.has NRL.out R21.out)
          clear hk hP B21 P21 R21 L21
          try simp only [Act.put]
          go_wp2_with (fail)
          go_roundg (160 - (t + 1))
          case measure => have := TG.out; omega
          case rel => exact ⟨t + 1, by omega, by have := TG.out; omega, by simp, B22.out, P22.out, R22.out, L22.out⟩
        · skip
          have ez := HB.out t (by simp; omega)
          rw [ez] at HS
          clear ez
          obtain ⟨m, hm⟩ : ∃ q_, q_ = firstN LL2 t := ⟨_, rfl⟩
          rw [← hm] at HS L20
          clear hm
          have SC := Lib.hid (fun W h => SK.out W (t : Int) (by omega) (by omega) h)
          have zb := backV_bd F c sx sy t line
          obtain ⟨z, hz⟩ : ∃ q_, q_ = backV F c sx sy t line := ⟨_, rfl⟩
          rw [← hz] at SC HS zb
          clear hz
          obtain ⟨hc0, hf0⟩ := P20.out.out
          go_wp2_with (fail)
          clear hc0 hf0
          with_reducible refine (SC.out _ (HM0.out.at HN.out B20.out)).mono ?_
          rintro q_ u21 ⟨rfl, hb⟩
          have B21 := Lib.hid (vian HN.out B20.out hb)
          have P21 := Lib.hid (P20.out.below hb)
          have R21 := Lib.hid (R20.out.below hb)
          have L21 := Lib.hid (L20.out.below hb)
          clear hb B20 P20 R20 L20
          go_wp2_with (refine store_u L21.out rfl _ _ rfl _ rfl _ rfl (by omega) ?_)
          intro u22 hP hk
          rw [HS.out] at hP
          have L22 := Lib.hid hP
          have B22 := Lib.hid (hk.below HN.out LL.out B21.out)
          have P22 := Lib.hid (hk.has NPL.out P21.out)
          have R22 := Lib.hid (hk.has NRL.out R21.out)
          clear hk hP B21 P21 R21 L21
          try simp only [Act.put]
          go_wp2_with (fail)
          go_roundg (160 - (t + 1))
          case measure => have := TG.out; omega
          case rel => exact ⟨t + 1, by omega, by have := TG.out; omega, by simp, B22.out, P22.out, R22.out, L22.out⟩
      · skip
        have te : t = 160 := by omega
        subst te
        have l1 : ¬ ((160 : Nat) : Int) < 160 := by omega
        go_wp2_with (first | (refine load_b L20.out rfl _ rfl rfl ?_; simp only [Act.put, List.setIfInBounds_toArray, List.set_cons_zero, List.set_cons_succ]) | (refine store_b R20.out (firstN LL2 160) rfl _ _ rfl rfl rfl ?_))
        intro u21 hP hk
        have R21 := Lib.hid hP
        have B21 := Lib.hid (hk.below HN.out LR.out B20.out)
        have P21 := Lib.hid (hk.has NPR.out P20.out)
        have L21 := Lib.hid (hk.has (Ne.symm NRL.out) L20.out)
        clear hk hP B20 P20 R20 L20
        try simp only [Act.put]
        go_wp2_with (fail)
        exact bodyPost_ret (results_2 rfl _ rfl rfl R21.out) rfl ⟨rfl, B21.out⟩
theorem line_c (c sx sy wx wy : Int) (c0 : 0 ≤ c) (c1 : c < 256) (sx0 : 0 ≤ sx) (sx1 : sx < 256) (sy0 : 0 ≤ sy) (sy1 : sy < 256) (wx0 : 0 ≤ wx) (wx1 : wx < 256) (wy0 : 0 ≤ wy) (wy1 : wy < 256) (s : Value) (F : M) (line ow : Int) (line0 : -9223372036854775808 ≤ line) (line1 : line ≤ 9223372036854775807) (ow0 : -9223372036854775808 ≤ ow) (ow1 : ow ≤ 9223372036854775807) (w : World) (hM : Mem w s F) : Calls Try.prog 57 #[.agg #[.int .u8 c, .int .u8 sx, .int .u8 sy, .int .u8 wx, .int .u8 wy], s, .int .i64 line, .int .i64 ow] w fun q_ w' => q_ = .returned (.tuple #[.agg (enc (lineE F c sx sy wx wy line ow)), .bool (seenV c wx wy line)]) ∧ Below w.heap.size w w' := by
  unfold lineE seenV
  rcases bit_bd c 0 with h | h
  · rw [h, if_neg (by decide), show (decide ((0 : Int) = 1) && reachV c wx wy line) = false from Bool.false_and _]
    exact line_dark c sx sy wx wy c0 c1 sx0 sx1 sy0 sy1 wx0 wx1 wy0 wy1 s F line ow line0 line1 ow0 ow1 h w hM
  · rw [h, if_pos rfl, show (decide ((1 : Int) = 1) && reachV c wx wy line) = reachV c wx wy line from Bool.true_and _]
    exact line_lit c sx sy wx wy c0 c1 sx0 sx1 sy0 sy1 wx0 wx1 wy0 wy1 s F line ow line0 line1 ow0 ow1 h w hM
set_option maxHeartbeats 2000000 in
theorem rline_dark (c sx sy wx wy : Int) (c0 : 0 ≤ c) (c1 : c < 256) (sx0 : 0 ≤ sx) (sx1 : sx < 256) (sy0 : 0 ≤ sy) (sy1 : sy < 256) (wx0 : 0 ≤ wx) (wx1 : wx < 256) (wy0 : 0 ≤ wy) (wy1 : wy < 256) (s : Value) (F : M) (line ow : Int) (line0 : -9223372036854775808 ≤ line) (line1 : line ≤ 9223372036854775807) (ow0 : -9223372036854775808 ≤ ow) (ow1 : ow ≤ 9223372036854775807) (hd : bit c 0 = 0) (w : World) (hM0 : Mem w s F) : Calls Try.prog 49 #[.agg #[.int .u8 c, .int .u8 sx, .int .u8 sy, .int .u8 wx, .int .u8 wy], s, .int .i64 line, .int .i64 ow] w fun q_ w' => q_ = .returned (.agg (enc zeroM)) ∧ Below w.heap.size w w' := by
  suffices hall : ∀ (n_ : Nat) (W0 : World), n_ ≤ W0.heap.size → Below n_ W0 w → MemB n_ W0 s F → Calls Try.prog 49 #[.agg #[.int .u8 c, .int .u8 sx, .int .u8 sy, .int .u8 wx, .int .u8 wy], s, .int .i64 line, .int .i64 ow] w fun q_ w' => q_ = .returned (.agg (enc zeroM)) ∧ Below n_ W0 w' from hall _ _ (Nat.le_refl _) (Below.refl _ _) hM0
  clear hM0
  intro n_ W0 hn hB hM0
  have HN := Lib.hid hn
  have BB := Lib.hid hB
  clear hn hB
  have HM0 := Lib.hid hM0
  clear hM0
  have SB := Lib.hid (fun W => bit0_c c c0 c1 W)
  rw [hd] at SB
  clear hd
  have hz34 : ∀ w : World, (zeroValue 34).run Try.prog w = .ok (.agg (enc zeroM)) w := zero34
  go_enter Try.func49, Try.ntmps49
  have Q_ := own2 w (.cells #[.int .u8 c, .int .u8 sx, .int .u8 sy, .int .u8 wx, .int .u8 wy] 72) (.cells (enc zeroM) 34)
  have B0 := Lib.hid (vian HN.out BB.out Q_)
  have P0 := Lib.hid (show Has ((w.alloc (.cells #[.int .u8 c, .int .u8 sx, .int .u8 sy, .int .u8 wx, .int .u8 wy] 72)).alloc (.cells (enc zeroM) 34)) w.heap.size #[.int .u8 c, .int .u8 sx, .int .u8 sy, .int .u8 wx, .int .u8 wy] by simpa using (Has.new w #[.int .u8 c, .int .u8 sx, .int .u8 sy, .int .u8 wx, .int .u8 wy] 72).alloc (.cells (enc zeroM) 34))
  have LP := Lib.hid (show n_ ≤ w.heap.size + 0 from Nat.le_add_right_of_le (Nat.le_trans HN.out BB.out.size))
  have R0 := Lib.hid (show Has ((w.alloc (.cells #[.int .u8 c, .int .u8 sx, .int .u8 sy, .int .u8 wx, .int .u8 wy] 72)).alloc (.cells (enc zeroM) 34)) (w.heap.size + 1) (enc zeroM) by simpa using Has.new (w.alloc (.cells #[.int .u8 c, .int .u8 sx, .int .u8 sy, .int .u8 wx, .int .u8 wy] 72)) (enc zeroM) 34)
  have LR := Lib.hid (show n_ ≤ (w.heap.size + 1) from Nat.le_add_right_of_le (Nat.le_trans HN.out BB.out.size))
  have NPR := Lib.hid (show w.heap.size + 0 ≠ w.heap.size + 1 by omega)
  simp only [Nat.add_zero] at LP NPR
  clear Q_
  go_upto_region 1 with (fail)
  generalize ((w.alloc (.cells #[.int .u8 c, .int .u8 sx, .int .u8 sy, .int .u8 wx, .int .u8 wy] 72)).alloc (.cells (enc zeroM) 34)) = u0 at B0 P0 R0 ⊢
  generalize w.heap.size + 1 = rb at R0 LR NPR ⊢
  generalize w.heap.size = pb at P0 LP NPR ⊢
  go_wp2_with (refine store_b (Has.new u0 (enc zeroM) 34) zeroM rfl _ _ rfl rfl rfl ?_)
  intro u1 hP hk
  have Q_ := own1 u0 (.cells (enc zeroM) 34)
  have LL := Lib.hid (show n_ ≤ u0.heap.size from Nat.le_trans HN.out B0.out.size)
  have NPL := Lib.hid (show pb ≠ u0.heap.size from Nat.ne_of_lt P0.out.1)
  have NRL := Lib.hid (show rb ≠ u0.heap.size from Nat.ne_of_lt R0.out.1)
  have B1 := Lib.hid (hk.below HN.out LL.out (vian HN.out B0.out Q_))
  have P1 := Lib.hid (hk.has NPL.out (P0.out.below Q_))
  have R1 := Lib.hid (hk.has NRL.out (R0.out.below Q_))
  have L1 := Lib.hid hP
  generalize u0.heap.size = lb at LL NPL NRL L1 ⊢
  clear hk hP Q_ B0 P0 R0
  try simp only [Act.put]
  obtain ⟨hc0, hf0⟩ := P1.out.out
  go_wp2_with (fail)
  clear hc0 hf0
  with_reducible refine (SB.out _).mono ?_
  rintro q_ w' ⟨rfl, rfl⟩
  go_wp2_with (first | (refine load_b L1.out rfl _ rfl rfl ?_; simp only [Act.put, List.setIfInBounds_toArray, List.set_cons_zero, List.set_cons_succ]) | (refine store_b R1.out (zeroM) rfl _ _ rfl rfl rfl ?_))
  intro u2 hP hk
  have R2 := Lib.hid hP
  have B2 := Lib.hid (hk.below HN.out LR.out B1.out)
  have P2 := Lib.hid (hk.has NPR.out P1.out)
  have L2 := Lib.hid (hk.has (Ne.symm NRL.out) L1.out)
  clear hk hP B1 P1 R1 L1
  try simp only [Act.put]
  go_wp2_with (fail)
  exact bodyPost_ret (results_b rfl _ rfl R2.out) rfl ⟨rfl, B2.out⟩
set_option maxHeartbeats 8000000 in
theorem rline_lit (c sx sy wx wy : Int) (c0 : 0 ≤ c) (c1 : c < 256) (sx0 : 0 ≤ sx) (sx1 : sx < 256) (sy0 : 0 ≤ sy) (sy1 : sy < 256) (wx0 : 0 ≤ wx) (wx1 : wx < 256) (wy0 : 0 ≤ wy) (wy1 : wy < 256) (s : Value) (F : M) (line ow : Int) (line0 : -9223372036854775808 ≤ line) (line1 : line ≤ 9223372036854775807) (ow0 : -9223372036854775808 ≤ ow) (ow1 : ow ≤ 9223372036854775807) (hd : bit c 0 = 1) (w : World) (hM0 : Mem w s F) : Calls Try.prog 49 #[.agg #[.int .u8 c, .int .u8 sx, .int .u8 sy, .int .u8 wx, .int .u8 wy], s, .int .i64 line, .int .i64 ow] w fun q_ w' => q_ = .returned (.agg (enc (firstN (lineV F c sx sy wx wy line ow) 160))) ∧ Below w.heap.size w w' := by
  suffices hall : ∀ (n_ : Nat) (W0 : World), n_ ≤ W0.heap.size → Below n_ W0 w → MemB n_ W0 s F → Calls Try.prog 49 #[.agg #[.int .u8 c, .int .u8 sx, .int .u8 sy, .int .u8 wx, .int .u8 wy], s, .int .i64 line, .int .i64 ow] w fun q_ w' => q_ = .returned (.agg (enc (firstN (lineV F c sx sy wx wy line ow) 160))) ∧ Below n_ W0 w' from hall _ _ (Nat.le_refl _) (Below.refl _ _) hM0
  clear hM0
  intro n_ W0 hn hB hM0
  have HN := Lib.hid hn
  have BB := Lib.hid hB
  clear hn hB
  have HM0 := Lib.hid hM0
  clear hM0
  have SB := Lib.hid (fun W => bit0_c c c0 c1 W)
  rw [hd] at SB
  have SV := Lib.hid (fun W => seen_c c sx sy wx wy c0 c1 sx0 sx1 sy0 sy1 wx0 wx1 wy0 wy1 line line0 line1 W)
  rw [hd, show (decide ((1 : Int) = 1) && reachV c wx wy line) = reachV c wx wy line from Bool.true_and _] at SV
  clear hd
  have HW := Lib.hid (show ∀ t : Nat, reachV c wx wy line = true → 0 ≤ (t : Int) + 7 - wx → (lineV F c sx sy wx wy line ow) t = winV F c ((t : Int) + 7 - wx) ow from fun t h1 h2 => if_pos ⟨h1, h2⟩)
  have HB := Lib.hid (show ∀ t : Nat, ¬ (reachV c wx wy line = true ∧ 0 ≤ (t : Int) + 7 - wx) → (lineV F c sx sy wx wy line ow) t = backV F c sx sy t line from fun t h1 => if_neg h1)
  have SW := Lib.hid (fun W (y : Int) (y0 : -300 < y) (y1 : y < 300) h => rwin_c c sx sy wx wy c0 c1 sx0 sx1 sy0 sy1 wx0 wx1 wy0 wy1 s F y ow (by omega) (by omega) ow0 ow1 W h)
  have SK := Lib.hid (fun W (y : Int) (y0 : -300 < y) (y1 : y < 300) h => rback_c c sx sy wx wy c0 c1 sx0 sx1 sy0 sy1 wx0 wx1 wy0 wy1 s F y line (by omega) (by omega) line0 line1 W h)
  obtain ⟨v, hv⟩ : ∃ q_, q_ = reachV c wx wy line := ⟨_, rfl⟩
  rw [← hv] at SV HW HB
  obtain ⟨LL2, hL⟩ : ∃ q_, q_ = lineV F c sx sy wx wy line ow := ⟨_, rfl⟩
  rw [← hL] at HW HB ⊢
  clear hv hL
  cases v
  · skip
    have hz34 : ∀ w : World, (zeroValue 34).run Try.prog w = .ok (.agg (enc zeroM)) w := zero34
    go_enter Try.func49, Try.ntmps49
    have Q_ := own2 w (.cells #[.int .u8 c, .int .u8 sx, .int .u8 sy, .int .u8 wx, .int .u8 wy] 72) (.cells (enc zeroM) 34)
    have B0 := Lib.hid (vian HN.out BB.out Q_)
    have P0 := Lib.hid (show Has ((w.alloc (.cells #[.int .u8 c, .int .u8 sx, .int .u8 sy, .int .u8 wx, .int .u8 wy] 72)).alloc (.cells (enc zeroM) 34)) w.heap.size #[.int .u8 c, .int .u8 sx, .int .u8 sy, .int .u8 wx, .int .u8 wy] by simpa using (Has.new w #[.int .u8 c, .int .u8 sx, .int .u8 sy, .int .u8 wx, .int .u8 wy] 72).alloc (.cells (enc zeroM) 34))
    have LP := Lib.hid (show n_ ≤ w.heap.size + 0 from Nat.le_add_right_of_le (Nat.le_trans HN.out BB.out.size))
    have R0 := Lib.hid (show Has ((w.alloc (.cells #[.int .u8 c, .int .u8 sx, .int .u8 sy, .int .u8 wx, .int .u8 wy] 72)).alloc (.cells (enc zeroM) 34)) (w.heap.size + 1) (enc zeroM) by simpa using Has.new (w.alloc (.cells #[.int .u8 c, .int .u8 sx, .int .u8 sy, .int .u8 wx, .int .u8 wy] 72)) (enc zeroM) 34)
    have LR := Lib.hid (show n_ ≤ (w.heap.size + 1) from Nat.le_add_right_of_le (Nat.le_trans HN.out BB.out.size))
    have NPR := Lib.hid (show w.heap.size + 0 ≠ w.heap.size + 1 by omega)
    simp only [Nat.add_zero] at LP NPR
    clear Q_
    go_upto_region 1 with (fail)
    generalize ((w.alloc (.cells #[.int .u8 c, .int .u8 sx, .int .u8 sy, .int .u8 wx, .int .u8 wy] 72)).alloc (.cells (enc zeroM) 34)) = u0 at B0 P0 R0 ⊢
    generalize w.heap.size + 1 = rb at R0 LR NPR ⊢
    generalize w.heap.size = pb at P0 LP NPR ⊢
    go_wp2_with (refine store_b (Has.new u0 (enc zeroM) 34) zeroM rfl _ _ rfl rfl rfl ?_)
    intro u1 hP hk
    have Q_ := own1 u0 (.cells (enc zeroM) 34)
    have LL := Lib.hid (show n_ ≤ u0.heap.size from Nat.le_trans HN.out B0.out.size)
    have NPL := Lib.hid (show pb ≠ u0.heap.size from Nat.ne_of_lt P0.out.1)
    have NRL := Lib.hid (show rb ≠ u0.heap.size from Nat.ne_of_lt R0.out.1)
    have B1 := Lib.hid (hk.below HN.out LL.out (vian HN.out B0.out Q_))
    have P1 := Lib.hid (hk.has NPL.out (P0.out.below Q_))
    have R1 := Lib.hid (hk.has NRL.out (R0.out.below Q_))
    have L1 := Lib.hid hP
    generalize u0.heap.size = lb at LL NPL NRL L1 ⊢
    clear hk hP Q_ B0 P0 R0
    try simp only [Act.put]
    obtain ⟨hc0, hf0⟩ := P1.out.out
    go_wp2_with (fail)
    clear hc0 hf0
    with_reducible refine (SB.out _).mono ?_
    rintro q_ w' ⟨rfl, rfl⟩
    obtain ⟨hc0, hf0⟩ := P1.out.out
    go_wp2_with (fail)
    clear hc0 hf0
    with_reducible refine (SV.out _).mono ?_
    rintro q_ u2 ⟨rfl, hb⟩
    have B2 := Lib.hid (vian HN.out B1.out hb)
    have P2 := Lib.hid (P1.out.below hb)
    have R2 := Lib.hid (R1.out.below hb)
    have L2 := Lib.hid (L1.out.below hb)
    clear hb B1 P1 R1 L1
    go_wp2_with (fail)
    go_loopg [22] 160 (fun g' i w5 => ∃ (t : Nat), t ≤ 160 ∧ g' + t = 160 ∧ i = .int .i64 t ∧ Below n_ W0 w5 ∧ Has w5 pb #[.int .u8 c, .int .u8 sx, .int .u8 sy, .int .u8 wx, .int .u8 wy] ∧ Has w5 rb (enc zeroM) ∧ Has w5 lb (enc (firstN LL2 t)))
    case atStart => exact ⟨0, by omega, by omega, rfl, B2.out, P2.out, R2.out, by rw [first_zero]; exact L2.out⟩
    case round =>
      obtain ⟨u20, hw5⟩ : ∃ q_, q_ = wr := ⟨_, rfl⟩
      subst hw5
      obtain ⟨t, ht, hg, rfl, hB, hP, hR, hL⟩ := hrel
      have TG := Lib.hid hg
      have B20 := Lib.hid hB
      have P20 := Lib.hid hP
      have R20 := Lib.hid hR
      have L20 := Lib.hid hL
      clear hg hB hP hR hL B2 P2 R2 L2
      by_cases hlt : t < 160
      · skip
        have l1 : (t : Int) < 160 := by omega
        have l0 : (0 : Int) ≤ t := by omega
        have HS := Lib.hid (first_succ LL2 t)
        have ez := HB.out t (by simp)
        rw [ez] at HS
        clear ez
        obtain ⟨m, hm⟩ : ∃ q_, q_ = firstN LL2 t := ⟨_, rfl⟩
        rw [← hm] at HS L20
        clear hm
        have SC := Lib.hid (fun W h => SK.out W (t : Int) (by omega) (by omega) h)
        have zb := backV_bd F c sx sy t line
        obtain ⟨z, hz⟩ : ∃ q_, q_ = backV F c sx sy t line := ⟨_, rfl⟩
        rw [← hz] at SC HS zb
        clear hz
        obtain ⟨hc0, hf0⟩ := P20.out.out
        go_wp2_with (fail)
        clear hc0 hf0
        with_reducible refine (SC.out _ (HM0.out.at HN.out B20.out)).mono ?_
        rintro q_ u21 ⟨rfl, hb⟩
        have B21 := Lib.hid (vian HN.out B20.out hb)
        have P21 := Lib.hid (P20.out.below hb)
        have R21 := Lib.hid (R20.out.below hb)
        have L21 := Lib.hid (L20.out.below hb)
        clear hb B20 P20 R20 L20
        go_wp2_with (refine store_u L21.out rfl _ _ rfl _ rfl _ rfl (by omega) ?_)
        intro u22 hP hk
        rw [HS.out] at hP
        have L22 := Lib.hid hP
        have B22 := Lib.hid (hk.below HN.out LL.out B21.out)
        have P22 := Lib.hid (hk.has NPL.out P21.out)
        have R22 := Lib.hid (hk.has NRL.out R21.out)
        clear hk hP B21 P21 R21 L21
        try simp only [Act.put]
        go_wp2_with (fail)
        go_roundg (160 - (t + 1))
        case measure => have := TG.out; omega
        case rel => exact ⟨t + 1, by omega, by have := TG.out; omega, by simp, B22.out, P22.out, R22.out, L22.out⟩
      · skip
        have te : t = 160 := by omega
        subst te
        have l1 : ¬ ((160 : Nat) : Int) < 160 := by omega
        go_wp2_with (first | (refine load_b L20.out rfl _ rfl rfl ?_; simp only [Act.put, List.setIfInBounds_toArray, List.set_cons_zero, List.set_cons_succ]) | (refine store_b R20.out (firstN LL2 160) rfl _ _ rfl rfl rfl ?_))
        intro u21 hP hk
        have R21 := Lib.hid hP
        have B21 := Lib.hid (hk.below HN.out LR.out B20.out)
        have P21 := Lib.hid (hk.has NPR.out P20.out)
        have L21 := Lib.hid (hk.has (Ne.symm NRL.out) L20.out)
        clear hk hP B20 P20 R20 L20
        try simp only [Act.put]
        go_wp2_with (fail)
        exact bodyPost_ret (results_b rfl _ rfl R21.out) rfl ⟨rfl, B21.out⟩
  · skip
    have hz34 : ∀ w : World, (zeroValue 34).run Try.prog w = .ok (.agg (enc zeroM)) w := zero34
    go_enter Try.func49, Try.ntmps49
    have Q_ := own2 w (.cells #[.int .u8 c, .int .u8 sx, .int .u8 sy, .int .u8 wx, .int .u8 wy] 72) (.cells (enc zeroM) 34)
    have B0 := Lib.hid (vian HN.out BB.out Q_)
    have P0 := Lib.hid (show Has ((w.alloc (.cells #[.int .u8 c, .int .u8 sx, .int .u8 sy, .int .u8 wx, .int .u8 wy] 72)).alloc (.cells (enc zeroM) 34)) w.heap.size #[.int .u8 c, .int .u8 sx, .int .u8 sy, .int .u8 wx, .int .u8 wy] by simpa using (Has.new w #[.int .u8 c, .int .u8 sx, .int .u8 sy, .int .u8 wx, .int .u8 wy] 72).alloc (.cells (enc zeroM) 34))
    have LP := Lib.hid (show n_ ≤ w.heap.size + 0 from Nat.le_add_right_of_le (Nat.le_trans HN.out BB.out.size))
    have R0 := Lib.hid (show Has ((w.alloc (.cells #[.int .u8 c, .int .u8 sx, .int .u8 sy, .int .u8 wx, .int .u8 wy] 72)).alloc (.cells (enc zeroM) 34)) (w.heap.size + 1) (enc zeroM) by simpa using Has.new (w.alloc (.cells #[.int .u8 c, .int .u8 sx, .int .u8 sy, .int .u8 wx, .int .u8 wy] 72)) (enc zeroM) 34)
    have LR := Lib.hid (show n_ ≤ (w.heap.size + 1) from Nat.le_add_right_of_le (Nat.le_trans HN.out BB.out.size))
    have NPR := Lib.hid (show w.heap.size + 0 ≠ w.heap.size + 1 by omega)
    simp only [Nat.add_zero] at LP NPR
    clear Q_
    go_upto_region 1 with (fail)
    generalize ((w.alloc (.cells #[.int .u8 c, .int .u8 sx, .int .u8 sy, .int .u8 wx, .int .u8 wy] 72)).alloc (.cells (enc zeroM) 34)) = u0 at B0 P0 R0 ⊢
    generalize w.heap.size + 1 = rb at R0 LR NPR ⊢
    generalize w.heap.size = pb at P0 LP NPR ⊢
    go_wp2_with (refine store_b (Has.new u0 (enc zeroM) 34) zeroM rfl _ _ rfl rfl rfl ?_)
    intro u1 hP hk
    have Q_ := own1 u0 (.cells (enc zeroM) 34)
    have LL := Lib.hid (show n_ ≤ u0.heap.size from Nat.le_trans HN.out B0.out.size)
    have NPL := Lib.hid (show pb ≠ u0.heap.size from Nat.ne_of_lt P0.out.1)
    have NRL := Lib.hid (show rb ≠ u0.heap.size from Nat.ne_of_lt R0.out.1)
    have B1 := Lib.hid (hk.below HN.out LL.out (vian HN.out B0.out Q_))
    have P1 := Lib.hid (hk.has NPL.out (P0.out.below Q_))
    have R1 := Lib.hid (hk.has NRL.out (R0.out.below Q_))
    have L1 := Lib.hid hP
    generalize u0.heap.size = lb at LL NPL NRL L1 ⊢
    clear hk hP Q_ B0 P0 R0
    try simp only [Act.put]
    obtain ⟨hc0, hf0⟩ := P1.out.out
    go_wp2_with (fail)
    clear hc0 hf0
    with_reducible refine (SB.out _).mono ?_
    rintro q_ w' ⟨rfl, rfl⟩
    obtain ⟨hc0, hf0⟩ := P1.out.out
    go_wp2_with (fail)
    clear hc0 hf0
    with_reducible refine (SV.out _).mono ?_
    rintro q_ u2 ⟨rfl, hb⟩
    have B2 := Lib.hid (vian HN.out B1.out hb)
    have P2 := Lib.hid (P1.out.below hb)
    have R2 := Lib.hid (R1.out.below hb)
    have L2 := Lib.hid (L1.out.below hb)
    clear hb B1 P1 R1 L1
    go_wp2_with (fail)
    go_loopg [22] 160 (fun g' i w5 => ∃ (t : Nat), t ≤ 160 ∧ g' + t = 160 ∧ i = .int .i64 t ∧ Below n_ W0 w5 ∧ Has w5 pb #[.int .u8 c, .int .u8 sx, .int .u8 sy, .int .u8 wx, .int .u8 wy] ∧ Has w5 rb (enc zeroM) ∧ Has w5 lb (enc (firstN LL2 t)))
    case atStart => exact ⟨0, by omega, by omega, rfl, B2.out, P2.out, R2.out, by rw [first_zero]; exact L2.out⟩
    case round =>
      obtain ⟨u20, hw5⟩ : ∃ q_, q_ = wr := ⟨_, rfl⟩
      subst hw5
      obtain ⟨t, ht, hg, rfl, hB, hP, hR, hL⟩ := hrel
      have TG := Lib.hid hg
      have B20 := Lib.hid hB
      have P20 := Lib.hid hP
      have R20 := Lib.hid hR
      have L20 := Lib.hid hL
      clear hg hB hP hR hL B2 P2 R2 L2
      by_cases hlt : t < 160
      · skip
        have l1 : (t : Int) < 160 := by omega
        have l0 : (0 : Int) ≤ t := by omega
        have HS := Lib.hid (first_succ LL2 t)
        by_cases h2 : 0 ≤ (t : Int) + 7 - wx
        · skip
          have ez := HW.out t (by first | rfl | trivial) h2
          rw [ez] at HS
          clear ez
          obtain ⟨m, hm⟩ : ∃ q_, q_ = firstN LL2 t := ⟨_, rfl⟩
          rw [← hm] at HS L20
          clear hm
          have SC := Lib.hid (fun W h => SW.out W ((t : Int) + 7 - wx) (by omega) (by omega) h)
          have zb := winV_bd F c ((t : Int) + 7 - wx) ow
          obtain ⟨z, hz⟩ : ∃ q_, q_ = winV F c ((t : Int) + 7 - wx) ow := ⟨_, rfl⟩
          rw [← hz] at SC HS zb
          clear hz
          obtain ⟨hc0, hf0⟩ := P20.out.out
          go_wp2_with (fail)
          clear hc0 hf0
          with_reducible refine (SC.out _ (HM0.out.at HN.out B20.out)).mono ?_
          rintro q_ u21 ⟨rfl, hb⟩
          have B21 := Lib.hid (vian HN.out B20.out hb)
          have P21 := Lib.hid (P20.out.below hb)
          have R21 := Lib.hid (R20.out.below hb)
          have L21 := Lib.hid (L20.out.below hb)
          clear hb B20 P20 R20 L20
          go_wp2_with (refine store_u L21.out rfl _ _ rfl _ rfl _ rfl (by omega) ?_)
          intro u22 hP hk
          rw [HS.out] at hP
          have L22 := Lib.hid hP
          have B22 := Lib.hid (hk.below HN.out LL.out B21.out)
          have P22 := Lib.hid (hk.has NPL.out P21.out)
          have R22 := Lib.hid (hk.has NRL.out R21.out)
          clear hk hP B21 P21 R21 L21
          try simp only [Act.put]
          go_wp2_with (fail)
          go_roundg (160 - (t + 1))
          case measure => have := TG.out; omega
          case rel => exact ⟨t + 1, by omega, by have := TG.out; omega, by simp, B22.out, P22.out, R22.out, L22.out⟩
        · skip
          have ez := HB.out t (by simp; omega)
          rw [ez] at HS
          clear ez
          obtain ⟨m, hm⟩ : ∃ q_, q_ = firstN LL2 t := ⟨_, rfl⟩
          rw [← hm] at HS L20
          clear hm
          have SC := Lib.hid (fun W h => SK.out W (t : Int) (by omega) (by omega) h)
          have zb := backV_bd F c sx sy t line
          obtain ⟨z, hz⟩ : ∃ q_, q_ = backV F c sx sy t line := ⟨_, rfl⟩
          rw [← hz] at SC HS zb
          clear hz
          obtain ⟨hc0, hf0⟩ := P20.out.out
          go_wp2_with (fail)
          clear hc0 hf0
          with_reducible refine (SC.out _ (HM0.out.at HN.out B20.out)).mono ?_
          rintro q_ u21 ⟨rfl, hb⟩
          have B21 := Lib.hid (vian HN.out B20.out hb)
          have P21 := Lib.hid (P20.out.below hb)
          have R21 := Lib.hid (R20.out.below hb)
          have L21 := Lib.hid (L20.out.below hb)
          clear hb B20 P20 R20 L20
          go_wp2_with (refine store_u L21.out rfl _ _ rfl _ rfl _ rfl (by omega) ?_)
          intro u22 hP hk
          rw [HS.out] at hP
          have L22 := Lib.hid hP
          have B22 := Lib.hid (hk.below HN.out LL.out B21.out)
          have P22 := Lib.hid (hk.has NPL.out P21.out)
          have R22 := Lib.hid (hk.has NRL.out R21.out)
          clear hk hP B21 P21 R21 L21
          try simp only [Act.put]
          go_wp2_with (fail)
          go_roundg (160 - (t + 1))
          case measure => have := TG.out; omega
          case rel => exact ⟨t + 1, by omega, by have := TG.out; omega, by simp, B22.out, P22.out, R22.out, L22.out⟩
      · skip
        have te : t = 160 := by omega
        subst te
        have l1 : ¬ ((160 : Nat) : Int) < 160 := by omega
        go_wp2_with (first | (refine load_b L20.out rfl _ rfl rfl ?_; simp only [Act.put, List.setIfInBounds_toArray, List.set_cons_zero, List.set_cons_succ]) | (refine store_b R20.out (firstN LL2 160) rfl _ _ rfl rfl rfl ?_))
        intro u21 hP hk
        have R21 := Lib.hid hP
        have B21 := Lib.hid (hk.below HN.out LR.out B20.out)
        have P21 := Lib.hid (hk.has NPR.out P20.out)
        have L21 := Lib.hid (hk.has (Ne.symm NRL.out) L20.out)
        clear hk hP B20 P20 R20 L20
        try simp only [Act.put]
        go_wp2_with (fail)
        exact bodyPost_ret (results_b rfl _ rfl R21.out) rfl ⟨rfl, B21.out⟩
theorem rline_c (c sx sy wx wy : Int) (c0 : 0 ≤ c) (c1 : c < 256) (sx0 : 0 ≤ sx) (sx1 : sx < 256) (sy0 : 0 ≤ sy) (sy1 : sy < 256) (wx0 : 0 ≤ wx) (wx1 : wx < 256) (wy0 : 0 ≤ wy) (wy1 : wy < 256) (s : Value) (F : M) (line ow : Int) (line0 : -9223372036854775808 ≤ line) (line1 : line ≤ 9223372036854775807) (ow0 : -9223372036854775808 ≤ ow) (ow1 : ow ≤ 9223372036854775807) (w : World) (hM : Mem w s F) : Calls Try.prog 49 #[.agg #[.int .u8 c, .int .u8 sx, .int .u8 sy, .int .u8 wx, .int .u8 wy], s, .int .i64 line, .int .i64 ow] w fun q_ w' => q_ = .returned (.agg (enc (lineE F c sx sy wx wy line ow))) ∧ Below w.heap.size w w' := by
  unfold lineE
  rcases bit_bd c 0 with h | h
  · rw [h, if_neg (by decide)]
    exact rline_dark c sx sy wx wy c0 c1 sx0 sx1 sy0 sy1 wx0 wx1 wy0 wy1 s F line ow line0 line1 ow0 ow1 h w hM
  · rw [h, if_pos rfl]
    exact rline_lit c sx sy wx wy c0 c1 sx0 sx1 sy0 sy1 wx0 wx1 wy0 wy1 s F line ow line0 line1 ow0 ow1 h w hM
end Go.Proofs.Ytpfbodmadmneiaa
