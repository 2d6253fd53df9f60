/-
  A sprite's colour at a place of the screen, as the document tells it: for every memory of at most 8192 bytes, every number and place.
-/
import Derived.Test.YtpfbodmadmneiaaSc
import Derived.Deep.Cut
import Derived.BigQuiet
import Derived.WalkSmall
namespace Go.Proofs.Ytpfbodmadmneiaa
open Go.ChangeShapes Go.WideShapes Go.ChangeAt Go.RowKit
set_option linter.unusedVariables false
set_option linter.unusedSimpArgs false
set_option maxRecDepth 100000
/-- The document's own words for it. -/
theorem paint_ref (V : M) (c t h k r : Int) (r0 : 0 ≤ rowV c h r) (r1 : rowV c h r < 16) : paintV V c t h k r = dotV V (tileV c t + (if 7 < rowV c h r then 1 else 0)) (colmV h k) (if 7 < rowV c h r then rowV c h r - 8 else rowV c h r) := by
  unfold paintV
  generalize rowV c h r = R at r0 r1 ⊢
  split
  · rw [show R / 8 = 1 by omega]
    unfold dotV
    rw [show R % 8 % 8 = (R - 8) % 8 by omega]
  · rw [show R / 8 = 0 by omega]
    unfold dotV
    rw [show R % 8 % 8 = R % 8 by omega]
theorem colV_out (V O : M) (c : Int) (n : Nat) (x line : Int) (okO : okB O) (h : x < -1000 ∨ 1000 < x ∨ line < -1000 ∨ 1000 < line) : colV V O c n x line = 0 := by
  unfold colV inV
  have h1 := okO (4 * n)
  have h2 := okO (4 * n + 1)
  have h3 := hgt_is c
  refine if_neg fun hh => ?_
  obtain ⟨g1, g2, g3⟩ := hh
  rw [Bool.and_eq_true, decide_eq_true_eq, decide_eq_true_eq] at g1
  omega
set_option maxHeartbeats 2000000 in
theorem dotr_out (c bk fi se : Int) (c0 : 0 ≤ c) (c1 : c < 256) (bk0 : 0 ≤ bk) (bk1 : bk < 256) (fi0 : 0 ≤ fi) (fi1 : fi < 256) (se0 : 0 ≤ se) (se1 : se < 256) (vr ov : Value) (n x line : Int) (n0 : -9223372036854775808 ≤ n) (n1 : n ≤ 9223372036854775807) (x0 : -9223372036854775808 ≤ x) (x1 : x ≤ 9223372036854775807) (line0 : -9223372036854775808 ≤ line) (line1 : line ≤ 9223372036854775807) (h : n < 0 ∨ 39 < n ∨ x < -1000 ∨ 1000 < x ∨ line < -1000 ∨ 1000 < line) (w : World) : Calls Try.prog 65 #[.agg #[.int .u8 c, .int .u8 bk, .int .u8 fi, .int .u8 se], vr, ov, .int .i64 n, .int .i64 x, .int .i64 line] w fun q_ w' => q_ = .returned (.tuple #[.int .u8 0, .bool false]) ∧ Below w.heap.size w w' := by
  suffices hall : ∀ (n_ : Nat) (W0 : World), n_ ≤ W0.heap.size → Below n_ W0 w → Calls Try.prog 65 #[.agg #[.int .u8 c, .int .u8 bk, .int .u8 fi, .int .u8 se], vr, ov, .int .i64 n, .int .i64 x, .int .i64 line] w fun q_ w' => q_ = .returned (.tuple #[.int .u8 0, .bool false]) ∧ Below n_ W0 w' from hall _ _ (Nat.le_refl _) (Below.refl _ _)
  intro n_ W0 hn hB
  have HN := Lib.hid hn
  have BB := Lib.hid hB
  clear hn hB
  by_cases h0 : n < 0
  · skip
    have d0 : decide (n < 0) = true := decide_eq_true h0
    go_enter Try.func65, Try.ntmps65
    have Q_ := own1 w (.cells #[.int .u8 c, .int .u8 bk, .int .u8 fi, .int .u8 se] 74)
    have B0 := Lib.hid (vian HN.out BB.out Q_)
    have P0 := Lib.hid (show Has (w.alloc (.cells #[.int .u8 c, .int .u8 bk, .int .u8 fi, .int .u8 se] 74)) w.heap.size #[.int .u8 c, .int .u8 bk, .int .u8 fi, .int .u8 se] by simpa using Has.new w #[.int .u8 c, .int .u8 bk, .int .u8 fi, .int .u8 se] 74)
    have LP := Lib.hid (show n_ ≤ w.heap.size + 0 from Nat.le_add_right_of_le (Nat.le_trans HN.out BB.out.size))
    simp only [Nat.add_zero] at LP
    clear Q_
    go_upto_region 1 with (fail)
    generalize (w.alloc (.cells #[.int .u8 c, .int .u8 bk, .int .u8 fi, .int .u8 se] 74)) = u0 at B0 P0 ⊢
    generalize w.heap.size = pb at P0 LP  ⊢
    obtain ⟨hc0, hf0⟩ := P0.out.out
    go_wp2_with (fail)
    clear hc0 hf0
    all_goals exact bodyPost_ret (v := .tuple #[.int .u8 0, .bool false]) (by simp [results, Try.results65, go_sem]) rfl ⟨rfl, B0.out⟩
  · skip
    have d0 : decide (n < 0) = false := decide_eq_false h0
    by_cases h1 : 39 < n
    · skip
      have d1 : decide (39 < n) = true := decide_eq_true h1
      go_enter Try.func65, Try.ntmps65
      have Q_ := own1 w (.cells #[.int .u8 c, .int .u8 bk, .int .u8 fi, .int .u8 se] 74)
      have B0 := Lib.hid (vian HN.out BB.out Q_)
      have P0 := Lib.hid (show Has (w.alloc (.cells #[.int .u8 c, .int .u8 bk, .int .u8 fi, .int .u8 se] 74)) w.heap.size #[.int .u8 c, .int .u8 bk, .int .u8 fi, .int .u8 se] by simpa using Has.new w #[.int .u8 c, .int .u8 bk, .int .u8 fi, .int .u8 se] 74)
      have LP := Lib.hid (show n_ ≤ w.heap.size + 0 from Nat.le_add_right_of_le (Nat.le_trans HN.out BB.out.size))
      simp only [Nat.add_zero] at LP
      clear Q_
      go_upto_region 1 with (fail)
      generalize (w.alloc (.cells #[.int .u8 c, .int .u8 bk, .int .u8 fi, .int .u8 se] 74)) = u0 at B0 P0 ⊢
      generalize w.heap.size = pb at P0 LP  ⊢
      obtain ⟨hc0, hf0⟩ := P0.out.out
      go_wp2_with (fail)
      clear hc0 hf0
      all_goals exact bodyPost_ret (v := .tuple #[.int .u8 0, .bool false]) (by simp [results, Try.results65, go_sem]) rfl ⟨rfl, B0.out⟩
    · skip
      have d1 : decide (39 < n) = false := decide_eq_false h1
      by_cases h2 : x < -1000
      · skip
        have d2 : decide (x < -1000) = true := decide_eq_true h2
        go_enter Try.func65, Try.ntmps65
        have Q_ := own1 w (.cells #[.int .u8 c, .int .u8 bk, .int .u8 fi, .int .u8 se] 74)
        have B0 := Lib.hid (vian HN.out BB.out Q_)
        have P0 := Lib.hid (show Has (w.alloc (.cells #[.int .u8 c, .int .u8 bk, .int .u8 fi, .int .u8 se] 74)) w.heap.size #[.int .u8 c, .int .u8 bk, .int .u8 fi, .int .u8 se] by simpa using Has.new w #[.int .u8 c, .int .u8 bk, .int .u8 fi, .int .u8 se] 74)
        have LP := Lib.hid (show n_ ≤ w.heap.size + 0 from Nat.le_add_right_of_le (Nat.le_trans HN.out BB.out.size))
        simp only [Nat.add_zero] at LP
        clear Q_
        go_upto_region 1 with (fail)
        generalize (w.alloc (.cells #[.int .u8 c, .int .u8 bk, .int .u8 fi, .int .u8 se] 74)) = u0 at B0 P0 ⊢
        generalize w.heap.size = pb at P0 LP  ⊢
        obtain ⟨hc0, hf0⟩ := P0.out.out
        go_wp2_with (fail)
        clear hc0 hf0
        all_goals exact bodyPost_ret (v := .tuple #[.int .u8 0, .bool false]) (by simp [results, Try.results65, go_sem]) rfl ⟨rfl, B0.out⟩
      · skip
        have d2 : decide (x < -1000) = false := decide_eq_false h2
        by_cases h3 : 1000 < x
        · skip
          have d3 : decide (1000 < x) = true := decide_eq_true h3
          go_enter Try.func65, Try.ntmps65
          have Q_ := own1 w (.cells #[.int .u8 c, .int .u8 bk, .int .u8 fi, .int .u8 se] 74)
          have B0 := Lib.hid (vian HN.out BB.out Q_)
          have P0 := Lib.hid (show Has (w.alloc (.cells #[.int .u8 c, .int .u8 bk, .int .u8 fi, .int .u8 se] 74)) w.heap.size #[.int .u8 c, .int .u8 bk, .int .u8 fi, .int .u8 se] by simpa using Has.new w #[.int .u8 c, .int .u8 bk, .int .u8 fi, .int .u8 se] 74)
          have LP := Lib.hid (show n_ ≤ w.heap.size + 0 from Nat.le_add_right_of_le (Nat.le_trans HN.out BB.out.size))
          simp only [Nat.add_zero] at LP
          clear Q_
          go_upto_region 1 with (fail)
          generalize (w.alloc (.cells #[.int .u8 c, .int .u8 bk, .int .u8 fi, .int .u8 se] 74)) = u0 at B0 P0 ⊢
          generalize w.heap.size = pb at P0 LP  ⊢
          obtain ⟨hc0, hf0⟩ := P0.out.out
          go_wp2_with (fail)
          clear hc0 hf0
          all_goals exact bodyPost_ret (v := .tuple #[.int .u8 0, .bool false]) (by simp [results, Try.results65, go_sem]) rfl ⟨rfl, B0.out⟩
        · skip
          have d3 : decide (1000 < x) = false := decide_eq_false h3
          by_cases h4 : line < -1000
          · skip
            have d4 : decide (line < -1000) = true := decide_eq_true h4
            go_enter Try.func65, Try.ntmps65
            have Q_ := own1 w (.cells #[.int .u8 c, .int .u8 bk, .int .u8 fi, .int .u8 se] 74)
            have B0 := Lib.hid (vian HN.out BB.out Q_)
            have P0 := Lib.hid (show Has (w.alloc (.cells #[.int .u8 c, .int .u8 bk, .int .u8 fi, .int .u8 se] 74)) w.heap.size #[.int .u8 c, .int .u8 bk, .int .u8 fi, .int .u8 se] by simpa using Has.new w #[.int .u8 c, .int .u8 bk, .int .u8 fi, .int .u8 se] 74)
            have LP := Lib.hid (show n_ ≤ w.heap.size + 0 from Nat.le_add_right_of_le (Nat.le_trans HN.out BB.out.size))
            simp only [Nat.add_zero] at LP
            clear Q_
            go_upto_region 1 with (fail)
            generalize (w.alloc (.cells #[.int .u8 c, .int .u8 bk, .int .u8 fi, .int .u8 se] 74)) = u0 at B0 P0 ⊢
            generalize w.heap.size = pb at P0 LP  ⊢
            obtain ⟨hc0, hf0⟩ := P0.out.out
            go_wp2_with (fail)
            clear hc0 hf0
            all_goals exact bodyPost_ret (v := .tuple #[.int .u8 0, .bool false]) (by simp [results, Try.results65, go_sem]) rfl ⟨rfl, B0.out⟩
          · skip
            have d4 : decide (line < -1000) = false := decide_eq_false h4
            by_cases h5 : 1000 < line
            · skip
              have d5 : decide (1000 < line) = true := decide_eq_true h5
              go_enter Try.func65, Try.ntmps65
              have Q_ := own1 w (.cells #[.int .u8 c, .int .u8 bk, .int .u8 fi, .int .u8 se] 74)
              have B0 := Lib.hid (vian HN.out BB.out Q_)
              have P0 := Lib.hid (show Has (w.alloc (.cells #[.int .u8 c, .int .u8 bk, .int .u8 fi, .int .u8 se] 74)) w.heap.size #[.int .u8 c, .int .u8 bk, .int .u8 fi, .int .u8 se] by simpa using Has.new w #[.int .u8 c, .int .u8 bk, .int .u8 fi, .int .u8 se] 74)
              have LP := Lib.hid (show n_ ≤ w.heap.size + 0 from Nat.le_add_right_of_le (Nat.le_trans HN.out BB.out.size))
              simp only [Nat.add_zero] at LP
              clear Q_
              go_upto_region 1 with (fail)
              generalize (w.alloc (.cells #[.int .u8 c, .int .u8 bk, .int .u8 fi, .int .u8 se] 74)) = u0 at B0 P0 ⊢
              generalize w.heap.size = pb at P0 LP  ⊢
              obtain ⟨hc0, hf0⟩ := P0.out.out
              go_wp2_with (fail)
              clear hc0 hf0
              all_goals exact bodyPost_ret (v := .tuple #[.int .u8 0, .bool false]) (by simp [results, Try.results65, go_sem]) rfl ⟨rfl, B0.out⟩
            · skip
              have d5 : decide (1000 < line) = false := decide_eq_false h5
              omega
set_option maxHeartbeats 4000000 in
theorem dotr_no (c bk fi se : Int) (c0 : 0 ≤ c) (c1 : c < 256) (bk0 : 0 ≤ bk) (bk1 : bk < 256) (fi0 : 0 ≤ fi) (fi1 : fi < 256) (se0 : 0 ≤ se) (se1 : se < 256) (vr ov : Value) (V O : M) (n : Nat) (hn : n < 40) (x line : Int) (x0 : -1000 ≤ x) (x1 : x ≤ 1000) (line0 : -1000 ≤ line) (line1 : line ≤ 1000) (hno : colV V O c n x line = 0) (hb : ¬ (O (4 * n) - 16 ≤ line ∧ line < O (4 * n) - 16 + hgt c ∧ O (4 * n + 1) - 8 ≤ x ∧ x < O (4 * n + 1))) (w : World) (hM0 : Mem w vr V) (hM1 : Mem w ov O) : Calls Try.prog 65 #[.agg #[.int .u8 c, .int .u8 bk, .int .u8 fi, .int .u8 se], vr, ov, .int .i64 (n : Int), .int .i64 x, .int .i64 line] w fun q_ w' => q_ = .returned (.tuple #[.int .u8 0, .bool false]) ∧ Below w.heap.size w w' := by
  suffices hall : ∀ (n_ : Nat) (W0 : World), n_ ≤ W0.heap.size → Below n_ W0 w → MemB n_ W0 vr V → MemB n_ W0 ov O → Calls Try.prog 65 #[.agg #[.int .u8 c, .int .u8 bk, .int .u8 fi, .int .u8 se], vr, ov, .int .i64 (n : Int), .int .i64 x, .int .i64 line] w fun q_ w' => q_ = .returned (.tuple #[.int .u8 0, .bool false]) ∧ Below n_ W0 w' from hall _ _ (Nat.le_refl _) (Below.refl _ _) hM0 hM1
  clear hM0 hM1
  intro n_ W0 hn hB hM0 hM1
  have HN := Lib.hid hn
  have BB := Lib.hid hB
  clear hn hB
  have HM0 := Lib.hid hM0
  clear hM0
  have HM1 := Lib.hid hM1
  clear hM1
  have ok := HM1.out.ok
  have A0 := Lib.hid (fun W h => oat0_c ov O n hn W h)
  have A1 := Lib.hid (fun W h => oat1_c ov O n hn W h)
  have A2 := Lib.hid (fun W h => oat2_c ov O n hn W h)
  have A3 := Lib.hid (fun W h => oat3_c ov O n hn W h)
  have n0 : (0 : Int) ≤ (n : Int) := by omega
  have n1 : (n : Int) < 40 := by omega
  have n2 : ¬ (39 : Int) < (n : Int) := by omega
  have t0 : decide ((n : Int) < 0) = false := decide_eq_false (by omega)
  have t1 : decide (39 < (n : Int)) = false := decide_eq_false (by omega)
  have t2 : decide (x < -1000) = false := decide_eq_false (by omega)
  have t3 : decide (1000 < x) = false := decide_eq_false (by omega)
  have t4 : decide (line < -1000) = false := decide_eq_false (by omega)
  have t5 : decide (1000 < line) = false := decide_eq_false (by omega)
  obtain ⟨D, hD⟩ : ∃ q_, q_ = colV V O c n x line := ⟨_, rfl⟩
  have hD2 := hD
  obtain ⟨ys0, ys1⟩ := ok (4 * n)
  obtain ⟨xs0, xs1⟩ := ok (4 * n + 1)
  obtain ⟨tl0, tl1⟩ := ok (4 * n + 2)
  obtain ⟨av0, av1⟩ := ok (4 * n + 3)
  rw [hno] at hD
  clear hD ok hno hD2
  generalize O (4 * n) = ys at *
  generalize O (4 * n + 1) = xs at *
  generalize O (4 * n + 2) = tl at *
  generalize O (4 * n + 3) = av at *
  have HG := Lib.hid (fun W => rheight_c c bk fi se c0 c1 bk0 bk1 fi0 fi1 se0 se1 W)
  have hh := hgt_is c
  obtain ⟨row, hrow⟩ : ∃ q_, q_ = line - (ys - 16) := ⟨_, rfl⟩
  obtain ⟨col, hcol⟩ : ∃ q_, q_ = x - (xs - 8) := ⟨_, rfl⟩
  have er : line - ys + 16 = row := by omega
  have ec : x - xs + 8 = col := by omega
  obtain ⟨g, hg⟩ : ∃ q_, q_ = hgt c := ⟨_, rfl⟩
  rw [← hg] at HG hh hb
  clear hg
  by_cases h1 : row < 0
  · skip
    have d1 : decide (row < 0) = true := decide_eq_true h1
    go_enter Try.func65, Try.ntmps65
    have Q_ := own1 w (.cells #[.int .u8 c, .int .u8 bk, .int .u8 fi, .int .u8 se] 74)
    have B0 := Lib.hid (vian HN.out BB.out Q_)
    have P0 := Lib.hid (show Has (w.alloc (.cells #[.int .u8 c, .int .u8 bk, .int .u8 fi, .int .u8 se] 74)) w.heap.size #[.int .u8 c, .int .u8 bk, .int .u8 fi, .int .u8 se] by simpa using Has.new w #[.int .u8 c, .int .u8 bk, .int .u8 fi, .int .u8 se] 74)
    have LP := Lib.hid (show n_ ≤ w.heap.size + 0 from Nat.le_add_right_of_le (Nat.le_trans HN.out BB.out.size))
    simp only [Nat.add_zero] at LP
    clear Q_
    go_upto_region 1 with (fail)
    generalize (w.alloc (.cells #[.int .u8 c, .int .u8 bk, .int .u8 fi, .int .u8 se] 74)) = u0 at B0 P0 ⊢
    generalize w.heap.size = pb at P0 LP  ⊢
    obtain ⟨hc0, hf0⟩ := P0.out.out
    go_wp2_with (fail)
    clear hc0 hf0
    with_reducible refine (A0.out _ (HM1.out.at HN.out B0.out)).mono ?_
    rintro q_ w' ⟨rfl, rfl⟩
    obtain ⟨hc0, hf0⟩ := P0.out.out
    go_wp2_with (fail)
    clear hc0 hf0
    with_reducible refine (A1.out _ (HM1.out.at HN.out B0.out)).mono ?_
    rintro q_ w' ⟨rfl, rfl⟩
    obtain ⟨hc0, hf0⟩ := P0.out.out
    go_wp2_with (fail)
    clear hc0 hf0
    all_goals exact bodyPost_ret (v := .tuple #[.int .u8 0, .bool false]) (by simp [results, Try.results65, go_sem]) rfl ⟨rfl, B0.out⟩
  · skip
    have d1 : decide (row < 0) = false := decide_eq_false h1
    by_cases h2 : g ≤ row
    · skip
      have d2 : decide (g ≤ row) = true := decide_eq_true h2
      go_enter Try.func65, Try.ntmps65
      have Q_ := own1 w (.cells #[.int .u8 c, .int .u8 bk, .int .u8 fi, .int .u8 se] 74)
      have B0 := Lib.hid (vian HN.out BB.out Q_)
      have P0 := Lib.hid (show Has (w.alloc (.cells #[.int .u8 c, .int .u8 bk, .int .u8 fi, .int .u8 se] 74)) w.heap.size #[.int .u8 c, .int .u8 bk, .int .u8 fi, .int .u8 se] by simpa using Has.new w #[.int .u8 c, .int .u8 bk, .int .u8 fi, .int .u8 se] 74)
      have LP := Lib.hid (show n_ ≤ w.heap.size + 0 from Nat.le_add_right_of_le (Nat.le_trans HN.out BB.out.size))
      simp only [Nat.add_zero] at LP
      clear Q_
      go_upto_region 1 with (fail)
      generalize (w.alloc (.cells #[.int .u8 c, .int .u8 bk, .int .u8 fi, .int .u8 se] 74)) = u0 at B0 P0 ⊢
      generalize w.heap.size = pb at P0 LP  ⊢
      obtain ⟨hc0, hf0⟩ := P0.out.out
      go_wp2_with (fail)
      clear hc0 hf0
      with_reducible refine (A0.out _ (HM1.out.at HN.out B0.out)).mono ?_
      rintro q_ w' ⟨rfl, rfl⟩
      obtain ⟨hc0, hf0⟩ := P0.out.out
      go_wp2_with (fail)
      clear hc0 hf0
      with_reducible refine (A1.out _ (HM1.out.at HN.out B0.out)).mono ?_
      rintro q_ w' ⟨rfl, rfl⟩
      obtain ⟨hc0, hf0⟩ := P0.out.out
      go_wp2_with (fail)
      clear hc0 hf0
      with_reducible refine (HG.out _).mono ?_
      rintro q_ u1 ⟨rfl, hb⟩
      have B1 := Lib.hid (vian HN.out B0.out hb)
      have P1 := Lib.hid (P0.out.below hb)
      clear hb B0 P0
      obtain ⟨hc0, hf0⟩ := P1.out.out
      go_wp2_with (fail)
      clear hc0 hf0
      all_goals exact bodyPost_ret (v := .tuple #[.int .u8 0, .bool false]) (by simp [results, Try.results65, go_sem]) rfl ⟨rfl, B1.out⟩
    · skip
      have d2 : decide (g ≤ row) = false := decide_eq_false h2
      by_cases h3 : col < 0
      · skip
        have d3 : decide (col < 0) = true := decide_eq_true h3
        go_enter Try.func65, Try.ntmps65
        have Q_ := own1 w (.cells #[.int .u8 c, .int .u8 bk, .int .u8 fi, .int .u8 se] 74)
        have B0 := Lib.hid (vian HN.out BB.out Q_)
        have P0 := Lib.hid (show Has (w.alloc (.cells #[.int .u8 c, .int .u8 bk, .int .u8 fi, .int .u8 se] 74)) w.heap.size #[.int .u8 c, .int .u8 bk, .int .u8 fi, .int .u8 se] by simpa using Has.new w #[.int .u8 c, .int .u8 bk, .int .u8 fi, .int .u8 se] 74)
        have LP := Lib.hid (show n_ ≤ w.heap.size + 0 from Nat.le_add_right_of_le (Nat.le_trans HN.out BB.out.size))
        simp only [Nat.add_zero] at LP
        clear Q_
        go_upto_region 1 with (fail)
        generalize (w.alloc (.cells #[.int .u8 c, .int .u8 bk, .int .u8 fi, .int .u8 se] 74)) = u0 at B0 P0 ⊢
        generalize w.heap.size = pb at P0 LP  ⊢
        obtain ⟨hc0, hf0⟩ := P0.out.out
        go_wp2_with (fail)
        clear hc0 hf0
        with_reducible refine (A0.out _ (HM1.out.at HN.out B0.out)).mono ?_
        rintro q_ w' ⟨rfl, rfl⟩
        obtain ⟨hc0, hf0⟩ := P0.out.out
        go_wp2_with (fail)
        clear hc0 hf0
        with_reducible refine (A1.out _ (HM1.out.at HN.out B0.out)).mono ?_
        rintro q_ w' ⟨rfl, rfl⟩
        obtain ⟨hc0, hf0⟩ := P0.out.out
        go_wp2_with (fail)
        clear hc0 hf0
        with_reducible refine (HG.out _).mono ?_
        rintro q_ u1 ⟨rfl, hb⟩
        have B1 := Lib.hid (vian HN.out B0.out hb)
        have P1 := Lib.hid (P0.out.below hb)
        clear hb B0 P0
        obtain ⟨hc0, hf0⟩ := P1.out.out
        go_wp2_with (fail)
        clear hc0 hf0
        all_goals exact bodyPost_ret (v := .tuple #[.int .u8 0, .bool false]) (by simp [results, Try.results65, go_sem]) rfl ⟨rfl, B1.out⟩
      · skip
        have d3 : decide (col < 0) = false := decide_eq_false h3
        have h4 : 7 < col := by omega
        have d4 : decide (7 < col) = true := decide_eq_true h4
        go_enter Try.func65, Try.ntmps65
        have Q_ := own1 w (.cells #[.int .u8 c, .int .u8 bk, .int .u8 fi, .int .u8 se] 74)
        have B0 := Lib.hid (vian HN.out BB.out Q_)
        have P0 := Lib.hid (show Has (w.alloc (.cells #[.int .u8 c, .int .u8 bk, .int .u8 fi, .int .u8 se] 74)) w.heap.size #[.int .u8 c, .int .u8 bk, .int .u8 fi, .int .u8 se] by simpa using Has.new w #[.int .u8 c, .int .u8 bk, .int .u8 fi, .int .u8 se] 74)
        have LP := Lib.hid (show n_ ≤ w.heap.size + 0 from Nat.le_add_right_of_le (Nat.le_trans HN.out BB.out.size))
        simp only [Nat.add_zero] at LP
        clear Q_
        go_upto_region 1 with (fail)
        generalize (w.alloc (.cells #[.int .u8 c, .int .u8 bk, .int .u8 fi, .int .u8 se] 74)) = u0 at B0 P0 ⊢
        generalize w.heap.size = pb at P0 LP  ⊢
        obtain ⟨hc0, hf0⟩ := P0.out.out
        go_wp2_with (fail)
        clear hc0 hf0
        with_reducible refine (A0.out _ (HM1.out.at HN.out B0.out)).mono ?_
        rintro q_ w' ⟨rfl, rfl⟩
        obtain ⟨hc0, hf0⟩ := P0.out.out
        go_wp2_with (fail)
        clear hc0 hf0
        with_reducible refine (A1.out _ (HM1.out.at HN.out B0.out)).mono ?_
        rintro q_ w' ⟨rfl, rfl⟩
        obtain ⟨hc0, hf0⟩ := P0.out.out
        go_wp2_with (fail)
        clear hc0 hf0
        with_reducible refine (HG.out _).mono ?_
        rintro q_ u1 ⟨rfl, hb⟩
        have B1 := Lib.hid (vian HN.out B0.out hb)
        have P1 := Lib.hid (P0.out.below hb)
        clear hb B0 P0
        obtain ⟨hc0, hf0⟩ := P1.out.out
        go_wp2_with (fail)
        clear hc0 hf0
        all_goals exact bodyPost_ret (v := .tuple #[.int .u8 0, .bool false]) (by simp [results, Try.results65, go_sem]) rfl ⟨rfl, B1.out⟩
set_option maxHeartbeats 4000000 in
theorem dotr_0000 (c bk fi se : Int) (c0 : 0 ≤ c) (c1 : c < 256) (bk0 : 0 ≤ bk) (bk1 : bk < 256) (fi0 : 0 ≤ fi) (fi1 : fi < 256) (se0 : 0 ≤ se) (se1 : se < 256) (vr ov : Value) (V O : M) (n : Nat) (hn : n < 40) (x line : Int) (x0 : -1000 ≤ x) (x1 : x ≤ 1000) (line0 : -1000 ≤ line) (line1 : line ≤ 1000) (hb : O (4 * n) - 16 ≤ line ∧ line < O (4 * n) - 16 + hgt c ∧ O (4 * n + 1) - 8 ≤ x ∧ x < O (4 * n + 1)) (h5 : bit (O (4 * n + 3)) 5 = 0) (h6 : bit (O (4 * n + 3)) 6 = 0) (h2 : bit c 2 = 0) (hu : ¬ 7 < ((line - (O (4 * n) - 16)))) (w : World) (hM0 : Mem w vr V) (hM1 : Mem w ov O) : Calls Try.prog 65 #[.agg #[.int .u8 c, .int .u8 bk, .int .u8 fi, .int .u8 se], vr, ov, .int .i64 (n : Int), .int .i64 x, .int .i64 line] w fun q_ w' => q_ = .returned (.tuple #[.int .u8 (colV V O c n x line), .bool (decide (colV V O c n x line ≠ 0))]) ∧ Below w.heap.size w w' := by
  suffices hall : ∀ (n_ : Nat) (W0 : World), n_ ≤ W0.heap.size → Below n_ W0 w → MemB n_ W0 vr V → MemB n_ W0 ov O → Calls Try.prog 65 #[.agg #[.int .u8 c, .int .u8 bk, .int .u8 fi, .int .u8 se], vr, ov, .int .i64 (n : Int), .int .i64 x, .int .i64 line] w fun q_ w' => q_ = .returned (.tuple #[.int .u8 (colV V O c n x line), .bool (decide (colV V O c n x line ≠ 0))]) ∧ Below n_ W0 w' from hall _ _ (Nat.le_refl _) (Below.refl _ _) hM0 hM1
  clear hM0 hM1
  intro n_ W0 hn hB hM0 hM1
  have HN := Lib.hid hn
  have BB := Lib.hid hB
  clear hn hB
  have HM0 := Lib.hid hM0
  clear hM0
  have HM1 := Lib.hid hM1
  clear hM1
  have ok := HM1.out.ok
  have A0 := Lib.hid (fun W h => oat0_c ov O n hn W h)
  have A1 := Lib.hid (fun W h => oat1_c ov O n hn W h)
  have A2 := Lib.hid (fun W h => oat2_c ov O n hn W h)
  have A3 := Lib.hid (fun W h => oat3_c ov O n hn W h)
  have n0 : (0 : Int) ≤ (n : Int) := by omega
  have n1 : (n : Int) < 40 := by omega
  have n2 : ¬ (39 : Int) < (n : Int) := by omega
  have t0 : decide ((n : Int) < 0) = false := decide_eq_false (by omega)
  have t1 : decide (39 < (n : Int)) = false := decide_eq_false (by omega)
  have t2 : decide (x < -1000) = false := decide_eq_false (by omega)
  have t3 : decide (1000 < x) = false := decide_eq_false (by omega)
  have t4 : decide (line < -1000) = false := decide_eq_false (by omega)
  have t5 : decide (1000 < line) = false := decide_eq_false (by omega)
  obtain ⟨D, hD⟩ : ∃ q_, q_ = colV V O c n x line := ⟨_, rfl⟩
  have hD2 := hD
  rw [← hD]
  unfold colV inV at hD2
  obtain ⟨ys0, ys1⟩ := ok (4 * n)
  obtain ⟨xs0, xs1⟩ := ok (4 * n + 1)
  obtain ⟨tl0, tl1⟩ := ok (4 * n + 2)
  obtain ⟨av0, av1⟩ := ok (4 * n + 3)
  clear hD ok
  generalize O (4 * n) = ys at *
  generalize O (4 * n + 1) = xs at *
  generalize O (4 * n + 2) = tl at *
  generalize O (4 * n + 3) = av at *
  have HG := Lib.hid (fun W => rheight_c c bk fi se c0 c1 bk0 bk1 fi0 fi1 se0 se1 W)
  have hh := hgt_is c
  obtain ⟨row, hrow⟩ : ∃ q_, q_ = line - (ys - 16) := ⟨_, rfl⟩
  obtain ⟨col, hcol⟩ : ∃ q_, q_ = x - (xs - 8) := ⟨_, rfl⟩
  have er : line - ys + 16 = row := by omega
  have ec : x - xs + 8 = col := by omega
  rw [← hrow, ← hcol] at hD2
  rw [← hrow] at hu
  have hgv : hgt c = 8 := by unfold hgt; rw [h2]; rfl
  rw [hgv] at HG hb
  rw [if_pos ⟨by rw [Bool.and_eq_true, decide_eq_true_eq, decide_eq_true_eq]; exact ⟨hb.1, by rw [hgv]; exact hb.2.1⟩, hb.2.2⟩, paint_ref _ _ _ _ _ _ (by unfold rowV; rw [h6, hgv]; (show 0 ≤ row; omega)) (by unfold rowV; rw [h6, hgv]; (show row < 16; omega))] at hD2
  have hrv : rowV c av row = row := by unfold rowV; rw [h6]; rfl
  have hcv : colmV av col = col := by unfold colmV; rw [h5]; rfl
  have htv : tileV c tl = tl := by unfold tileV; rw [h2]; rfl
  rw [hrv, hcv, htv, if_neg hu, if_neg hu] at hD2
  have d1 : decide (row < 0) = false := decide_eq_false (by omega)
  have d2 : decide ((8 : Int) ≤ row) = false := decide_eq_false (by omega)
  have d3 : decide (col < 0) = false := decide_eq_false (by omega)
  have d4 : decide (7 < col) = false := decide_eq_false (by omega)
  have r0 : 0 ≤ row := by omega
  have r1 : row < 8 := by omega
  have k0 : 0 ≤ col := by omega
  have k1 : col < 8 := by omega
  have q5 := Lib.hid (fun W => bit5_c av av0 av1 W)
  have q6 := Lib.hid (fun W => bit6_c av av0 av1 W)
  rw [h5] at q5
  rw [h6] at q6
  have ew : IntKind.u8.wrap av = av := by rw [IntKind.wrap_u8]; omega
  have td : tl.tdiv 2 = tl / 2 := Int.tdiv_eq_ediv_of_nonneg tl0
  have tu : ¬ 7 < row := hu
  have DC := Lib.hid (fun W h => rdot_c vr V (tl) (col) (row) (by omega) (by omega) (by omega) (by omega) W h)
  rw [Int.add_zero] at hD2
  rw [← hD2] at DC
  clear hD2 hgv hrv hcv htv h5 h6 h2 hb hrow hcol
  have ed : (D != 0) = (!decide (D = 0)) := by by_cases h : D = 0 <;> simp [h]
  go_enter Try.func65, Try.ntmps65
  have Q_ := own1 w (.cells #[.int .u8 c, .int .u8 bk, .int .u8 fi, .int .u8 se] 74)
  have B0 := Lib.hid (vian HN.out BB.out Q_)
  have P0 := Lib.hid (show Has (w.alloc (.cells #[.int .u8 c, .int .u8 bk, .int .u8 fi, .int .u8 se] 74)) w.heap.size #[.int .u8 c, .int .u8 bk, .int .u8 fi, .int .u8 se] by simpa using Has.new w #[.int .u8 c, .int .u8 bk, .int .u8 fi, .int .u8 se] 74)
  have LP := Lib.hid (show n_ ≤ w.heap.size + 0 from Nat.le_add_right_of_le (Nat.le_trans HN.out BB.out.size))
  simp only [Nat.add_zero] at LP
  clear Q_
  go_upto_region 1 with (fail)
  generalize (w.alloc (.cells #[.int .u8 c, .int .u8 bk, .int .u8 fi, .int .u8 se] 74)) = u0 at B0 P0 ⊢
  generalize w.heap.size = pb at P0 LP  ⊢
  obtain ⟨hc0, hf0⟩ := P0.out.out
  go_wp2_with (fail)
  clear hc0 hf0
  with_reducible refine (A0.out _ (HM1.out.at HN.out B0.out)).mono ?_
  rintro q_ w' ⟨rfl, rfl⟩
  obtain ⟨hc0, hf0⟩ := P0.out.out
  go_wp2_with (fail)
  clear hc0 hf0
  with_reducible refine (A1.out _ (HM1.out.at HN.out B0.out)).mono ?_
  rintro q_ w' ⟨rfl, rfl⟩
  obtain ⟨hc0, hf0⟩ := P0.out.out
  go_wp2_with (fail)
  clear hc0 hf0
  with_reducible refine (HG.out _).mono ?_
  rintro q_ u1 ⟨rfl, hb⟩
  have B1 := Lib.hid (vian HN.out B0.out hb)
  have P1 := Lib.hid (P0.out.below hb)
  clear hb B0 P0
  obtain ⟨hc0, hf0⟩ := P1.out.out
  go_wp2_with (fail)
  clear hc0 hf0
  with_reducible refine (A3.out _ (HM1.out.at HN.out B1.out)).mono ?_
  rintro q_ w' ⟨rfl, rfl⟩
  obtain ⟨hc0, hf0⟩ := P1.out.out
  go_wp2_with (fail)
  clear hc0 hf0
  with_reducible refine (q6.out _).mono ?_
  rintro q_ w' ⟨rfl, rfl⟩
  obtain ⟨hc0, hf0⟩ := P1.out.out
  go_wp2_with (fail)
  clear hc0 hf0
  with_reducible refine (q5.out _).mono ?_
  rintro q_ w' ⟨rfl, rfl⟩
  obtain ⟨hc0, hf0⟩ := P1.out.out
  go_wp2_with (fail)
  clear hc0 hf0
  with_reducible refine (A2.out _ (HM1.out.at HN.out B1.out)).mono ?_
  rintro q_ w' ⟨rfl, rfl⟩
  obtain ⟨hc0, hf0⟩ := P1.out.out
  go_wp2_with (fail)
  clear hc0 hf0
  with_reducible refine (HG.out _).mono ?_
  rintro q_ u2 ⟨rfl, hb⟩
  have B2 := Lib.hid (vian HN.out B1.out hb)
  have P2 := Lib.hid (P1.out.below hb)
  clear hb B1 P1
  obtain ⟨hc0, hf0⟩ := P2.out.out
  go_wp2_with (fail)
  clear hc0 hf0
  with_reducible refine (DC.out _ (HM0.out.at HN.out B2.out)).mono ?_
  rintro q_ w' ⟨rfl, rfl⟩
  go_wp2_with (fail)
  all_goals exact bodyPost_ret (v := .tuple #[.int .u8 D, .bool (decide (D ≠ 0))]) (by simp [results, Try.results65, go_sem] <;> exact ed) rfl ⟨rfl, B2.out⟩
set_option maxHeartbeats 4000000 in
theorem dotr_0010 (c bk fi se : Int) (c0 : 0 ≤ c) (c1 : c < 256) (bk0 : 0 ≤ bk) (bk1 : bk < 256) (fi0 : 0 ≤ fi) (fi1 : fi < 256) (se0 : 0 ≤ se) (se1 : se < 256) (vr ov : Value) (V O : M) (n : Nat) (hn : n < 40) (x line : Int) (x0 : -1000 ≤ x) (x1 : x ≤ 1000) (line0 : -1000 ≤ line) (line1 : line ≤ 1000) (hb : O (4 * n) - 16 ≤ line ∧ line < O (4 * n) - 16 + hgt c ∧ O (4 * n + 1) - 8 ≤ x ∧ x < O (4 * n + 1)) (h5 : bit (O (4 * n + 3)) 5 = 0) (h6 : bit (O (4 * n + 3)) 6 = 0) (h2 : bit c 2 = 1) (hu : ¬ 7 < ((line - (O (4 * n) - 16)))) (w : World) (hM0 : Mem w vr V) (hM1 : Mem w ov O) : Calls Try.prog 65 #[.agg #[.int .u8 c, .int .u8 bk, .int .u8 fi, .int .u8 se], vr, ov, .int .i64 (n : Int), .int .i64 x, .int .i64 line] w fun q_ w' => q_ = .returned (.tuple #[.int .u8 (colV V O c n x line), .bool (decide (colV V O c n x line ≠ 0))]) ∧ Below w.heap.size w w' := by
  suffices hall : ∀ (n_ : Nat) (W0 : World), n_ ≤ W0.heap.size → Below n_ W0 w → MemB n_ W0 vr V → MemB n_ W0 ov O → Calls Try.prog 65 #[.agg #[.int .u8 c, .int .u8 bk, .int .u8 fi, .int .u8 se], vr, ov, .int .i64 (n : Int), .int .i64 x, .int .i64 line] w fun q_ w' => q_ = .returned (.tuple #[.int .u8 (colV V O c n x line), .bool (decide (colV V O c n x line ≠ 0))]) ∧ Below n_ W0 w' from hall _ _ (Nat.le_refl _) (Below.refl _ _) hM0 hM1
  clear hM0 hM1
  intro n_ W0 hn hB hM0 hM1
  have HN := Lib.hid hn
  have BB := Lib.hid hB
  clear hn hB
  have HM0 := Lib.hid hM0
  clear hM0
  have HM1 := Lib.hid hM1
  clear hM1
  have ok := HM1.out.ok
  have A0 := Lib.hid (fun W h => oat0_c ov O n hn W h)
  have A1 := Lib.hid (fun W h => oat1_c ov O n hn W h)
  have A2 := Lib.hid (fun W h => oat2_c ov O n hn W h)
  have A3 := Lib.hid (fun W h => oat3_c ov O n hn W h)
  have n0 : (0 : Int) ≤ (n : Int) := by omega
  have n1 : (n : Int) < 40 := by omega
  have n2 : ¬ (39 : Int) < (n : Int) := by omega
  have t0 : decide ((n : Int) < 0) = false := decide_eq_false (by omega)
  have t1 : decide (39 < (n : Int)) = false := decide_eq_false (by omega)
  have t2 : decide (x < -1000) = false := decide_eq_false (by omega)
  have t3 : decide (1000 < x) = false := decide_eq_false (by omega)
  have t4 : decide (line < -1000) = false := decide_eq_false (by omega)
  have t5 : decide (1000 < line) = false := decide_eq_false (by omega)
  obtain ⟨D, hD⟩ : ∃ q_, q_ = colV V O c n x line := ⟨_, rfl⟩
  have hD2 := hD
  rw [← hD]
  unfold colV inV at hD2
  obtain ⟨ys0, ys1⟩ := ok (4 * n)
  obtain ⟨xs0, xs1⟩ := ok (4 * n + 1)
  obtain ⟨tl0, tl1⟩ := ok (4 * n + 2)
  obtain ⟨av0, av1⟩ := ok (4 * n + 3)
  clear hD ok
  generalize O (4 * n) = ys at *
  generalize O (4 * n + 1) = xs at *
  generalize O (4 * n + 2) = tl at *
  generalize O (4 * n + 3) = av at *
  have HG := Lib.hid (fun W => rheight_c c bk fi se c0 c1 bk0 bk1 fi0 fi1 se0 se1 W)
  have hh := hgt_is c
  obtain ⟨row, hrow⟩ : ∃ q_, q_ = line - (ys - 16) := ⟨_, rfl⟩
  obtain ⟨col, hcol⟩ : ∃ q_, q_ = x - (xs - 8) := ⟨_, rfl⟩
  have er : line - ys + 16 = row := by omega
  have ec : x - xs + 8 = col := by omega
  rw [← hrow, ← hcol] at hD2
  rw [← hrow] at hu
  have hgv : hgt c = 16 := by unfold hgt; rw [h2]; rfl
  rw [hgv] at HG hb
  rw [if_pos ⟨by rw [Bool.and_eq_true, decide_eq_true_eq, decide_eq_true_eq]; exact ⟨hb.1, by rw [hgv]; exact hb.2.1⟩, hb.2.2⟩, paint_ref _ _ _ _ _ _ (by unfold rowV; rw [h6, hgv]; (show 0 ≤ row; omega)) (by unfold rowV; rw [h6, hgv]; (show row < 16; omega))] at hD2
  have hrv : rowV c av row = row := by unfold rowV; rw [h6]; rfl
  have hcv : colmV av col = col := by unfold colmV; rw [h5]; rfl
  have htv : tileV c tl = tl / 2 * 2 := by unfold tileV; rw [h2]; rfl
  rw [hrv, hcv, htv, if_neg hu, if_neg hu] at hD2
  have d1 : decide (row < 0) = false := decide_eq_false (by omega)
  have d2 : decide ((16 : Int) ≤ row) = false := decide_eq_false (by omega)
  have d3 : decide (col < 0) = false := decide_eq_false (by omega)
  have d4 : decide (7 < col) = false := decide_eq_false (by omega)
  have r0 : 0 ≤ row := by omega
  have r1 : row < 16 := by omega
  have k0 : 0 ≤ col := by omega
  have k1 : col < 8 := by omega
  have q5 := Lib.hid (fun W => bit5_c av av0 av1 W)
  have q6 := Lib.hid (fun W => bit6_c av av0 av1 W)
  rw [h5] at q5
  rw [h6] at q6
  have ew : IntKind.u8.wrap av = av := by rw [IntKind.wrap_u8]; omega
  have td : tl.tdiv 2 = tl / 2 := Int.tdiv_eq_ediv_of_nonneg tl0
  have tu : ¬ 7 < row := hu
  have DC := Lib.hid (fun W h => rdot_c vr V (tl / 2 * 2) (col) (row) (by omega) (by omega) (by omega) (by omega) W h)
  rw [Int.add_zero] at hD2
  rw [← hD2] at DC
  clear hD2 hgv hrv hcv htv h5 h6 h2 hb hrow hcol
  have ed : (D != 0) = (!decide (D = 0)) := by by_cases h : D = 0 <;> simp [h]
  go_enter Try.func65, Try.ntmps65
  have Q_ := own1 w (.cells #[.int .u8 c, .int .u8 bk, .int .u8 fi, .int .u8 se] 74)
  have B0 := Lib.hid (vian HN.out BB.out Q_)
  have P0 := Lib.hid (show Has (w.alloc (.cells #[.int .u8 c, .int .u8 bk, .int .u8 fi, .int .u8 se] 74)) w.heap.size #[.int .u8 c, .int .u8 bk, .int .u8 fi, .int .u8 se] by simpa using Has.new w #[.int .u8 c, .int .u8 bk, .int .u8 fi, .int .u8 se] 74)
  have LP := Lib.hid (show n_ ≤ w.heap.size + 0 from Nat.le_add_right_of_le (Nat.le_trans HN.out BB.out.size))
  simp only [Nat.add_zero] at LP
  clear Q_
  go_upto_region 1 with (fail)
  generalize (w.alloc (.cells #[.int .u8 c, .int .u8 bk, .int .u8 fi, .int .u8 se] 74)) = u0 at B0 P0 ⊢
  generalize w.heap.size = pb at P0 LP  ⊢
  obtain ⟨hc0, hf0⟩ := P0.out.out
  go_wp2_with (fail)
  clear hc0 hf0
  with_reducible refine (A0.out _ (HM1.out.at HN.out B0.out)).mono ?_
  rintro q_ w' ⟨rfl, rfl⟩
  obtain ⟨hc0, hf0⟩ := P0.out.out
  go_wp2_with (fail)
  clear hc0 hf0
  with_reducible refine (A1.out _ (HM1.out.at HN.out B0.out)).mono ?_
  rintro q_ w' ⟨rfl, rfl⟩
  obtain ⟨hc0, hf0⟩ := P0.out.out
  go_wp2_with (fail)
  clear hc0 hf0
  with_reducible refine (HG.out _).mono ?_
  rintro q_ u1 ⟨rfl, hb⟩
  have B1 := Lib.hid (vian HN.out B0.out hb)
  have P1 := Lib.hid (P0.out.below hb)
  clear hb B0 P0
  obtain ⟨hc0, hf0⟩ := P1.out.out
  go_wp2_with (fail)
  clear hc0 hf0
  with_reducible refine (A3.out _ (HM1.out.at HN.out B1.out)).mono ?_
  rintro q_ w' ⟨rfl, rfl⟩
  obtain ⟨hc0, hf0⟩ := P1.out.out
  go_wp2_with (fail)
  clear hc0 hf0
  with_reducible refine (q6.out _).mono ?_
  rintro q_ w' ⟨rfl, rfl⟩
  obtain ⟨hc0, hf0⟩ := P1.out.out
  go_wp2_with (fail)
  clear hc0 hf0
  with_reducible refine (q5.out _).mono ?_
  rintro q_ w' ⟨rfl, rfl⟩
  obtain ⟨hc0, hf0⟩ := P1.out.out
  go_wp2_with (fail)
  clear hc0 hf0
  with_reducible refine (A2.out _ (HM1.out.at HN.out B1.out)).mono ?_
  rintro q_ w' ⟨rfl, rfl⟩
  obtain ⟨hc0, hf0⟩ := P1.out.out
  go_wp2_with (fail)
  clear hc0 hf0
  with_reducible refine (HG.out _).mono ?_
  rintro q_ u2 ⟨rfl, hb⟩
  have B2 := Lib.hid (vian HN.out B1.out hb)
  have P2 := Lib.hid (P1.out.below hb)
  clear hb B1 P1
  obtain ⟨hc0, hf0⟩ := P2.out.out
  go_wp2_with (fail)
  clear hc0 hf0
  with_reducible refine (DC.out _ (HM0.out.at HN.out B2.out)).mono ?_
  rintro q_ w' ⟨rfl, rfl⟩
  go_wp2_with (fail)
  all_goals exact bodyPost_ret (v := .tuple #[.int .u8 D, .bool (decide (D ≠ 0))]) (by simp [results, Try.results65, go_sem] <;> exact ed) rfl ⟨rfl, B2.out⟩
set_option maxHeartbeats 4000000 in
theorem dotr_0011 (c bk fi se : Int) (c0 : 0 ≤ c) (c1 : c < 256) (bk0 : 0 ≤ bk) (bk1 : bk < 256) (fi0 : 0 ≤ fi) (fi1 : fi < 256) (se0 : 0 ≤ se) (se1 : se < 256) (vr ov : Value) (V O : M) (n : Nat) (hn : n < 40) (x line : Int) (x0 : -1000 ≤ x) (x1 : x ≤ 1000) (line0 : -1000 ≤ line) (line1 : line ≤ 1000) (hb : O (4 * n) - 16 ≤ line ∧ line < O (4 * n) - 16 + hgt c ∧ O (4 * n + 1) - 8 ≤ x ∧ x < O (4 * n + 1)) (h5 : bit (O (4 * n + 3)) 5 = 0) (h6 : bit (O (4 * n + 3)) 6 = 0) (h2 : bit c 2 = 1) (hu :  7 < ((line - (O (4 * n) - 16)))) (w : World) (hM0 : Mem w vr V) (hM1 : Mem w ov O) : Calls Try.prog 65 #[.agg #[.int .u8 c, .int .u8 bk, .int .u8 fi, .int .u8 se], vr, ov, .int .i64 (n : Int), .int .i64 x, .int .i64 line] w fun q_ w' => q_ = .returned (.tuple #[.int .u8 (colV V O c n x line), .bool (decide (colV V O c n x line ≠ 0))]) ∧ Below w.heap.size w w' := by
  suffices hall : ∀ (n_ : Nat) (W0 : World), n_ ≤ W0.heap.size → Below n_ W0 w → MemB n_ W0 vr V → MemB n_ W0 ov O → Calls Try.prog 65 #[.agg #[.int .u8 c, .int .u8 bk, .int .u8 fi, .int .u8 se], vr, ov, .int .i64 (n : Int), .int .i64 x, .int .i64 line] w fun q_ w' => q_ = .returned (.tuple #[.int .u8 (colV V O c n x line), .bool (decide (colV V O c n x line ≠ 0))]) ∧ Below n_ W0 w' from hall _ _ (Nat.le_refl _) (Below.refl _ _) hM0 hM1
  clear hM0 hM1
  intro n_ W0 hn hB hM0 hM1
  have HN := Lib.hid hn
  have BB := Lib.hid hB
  clear hn hB
  have HM0 := Lib.hid hM0
  clear hM0
  have HM1 := Lib.hid hM1
  clear hM1
  have ok := HM1.out.ok
  have A0 := Lib.hid (fun W h => oat0_c ov O n hn W h)
  have A1 := Lib.hid (fun W h => oat1_c ov O n hn W h)
  have A2 := Lib.hid (fun W h => oat2_c ov O n hn W h)
  have A3 := Lib.hid (fun W h => oat3_c ov O n hn W h)
  have n0 : (0 : Int) ≤ (n : Int) := by omega
  have n1 : (n : Int) < 40 := by omega
  have n2 : ¬ (39 : Int) < (n : Int) := by omega
  have t0 : decide ((n : Int) < 0) = false := decide_eq_false (by omega)
  have t1 : decide (39 < (n : Int)) = false := decide_eq_false (by omega)
  have t2 : decide (x < -1000) = false := decide_eq_false (by omega)
  have t3 : decide (1000 < x) = false := decide_eq_false (by omega)
  have t4 : decide (line < -1000) = false := decide_eq_false (by omega)
  have t5 : decide (1000 < line) = false := decide_eq_false (by omega)
  obtain ⟨D, hD⟩ : ∃ q_, q_ = colV V O c n x line := ⟨_, rfl⟩
  have hD2 := hD
  rw [← hD]
  unfold colV inV at hD2
  obtain ⟨ys0, ys1⟩ := ok (4 * n)
  obtain ⟨xs0, xs1⟩ := ok (4 * n + 1)
  obtain ⟨tl0, tl1⟩ := ok (4 * n + 2)
  obtain ⟨av0, av1⟩ := ok (4 * n + 3)
  clear hD ok
  generalize O (4 * n) = ys at *
  generalize O (4 * n + 1) = xs at *
  generalize O (4 * n + 2) = tl at *
  generalize O (4 * n + 3) = av at *
  have HG := Lib.hid (fun W => rheight_c c bk fi se c0 c1 bk0 bk1 fi0 fi1 se0 se1 W)
  have hh := hgt_is c
  obtain ⟨row, hrow⟩ : ∃ q_, q_ = line - (ys - 16) := ⟨_, rfl⟩
  obtain ⟨col, hcol⟩ : ∃ q_, q_ = x - (xs - 8) := ⟨_, rfl⟩
  have er : line - ys + 16 = row := by omega
  have ec : x - xs + 8 = col := by omega
  rw [← hrow, ← hcol] at hD2
  rw [← hrow] at hu
  have hgv : hgt c = 16 := by unfold hgt; rw [h2]; rfl
  rw [hgv] at HG hb
  rw [if_pos ⟨by rw [Bool.and_eq_true, decide_eq_true_eq, decide_eq_true_eq]; exact ⟨hb.1, by rw [hgv]; exact hb.2.1⟩, hb.2.2⟩, paint_ref _ _ _ _ _ _ (by unfold rowV; rw [h6, hgv]; (show 0 ≤ row; omega)) (by unfold rowV; rw [h6, hgv]; (show row < 16; omega))] at hD2
  have hrv : rowV c av row = row := by unfold rowV; rw [h6]; rfl
  have hcv : colmV av col = col := by unfold colmV; rw [h5]; rfl
  have htv : tileV c tl = tl / 2 * 2 := by unfold tileV; rw [h2]; rfl
  rw [hrv, hcv, htv, if_pos hu, if_pos hu] at hD2
  have d1 : decide (row < 0) = false := decide_eq_false (by omega)
  have d2 : decide ((16 : Int) ≤ row) = false := decide_eq_false (by omega)
  have d3 : decide (col < 0) = false := decide_eq_false (by omega)
  have d4 : decide (7 < col) = false := decide_eq_false (by omega)
  have r0 : 0 ≤ row := by omega
  have r1 : row < 16 := by omega
  have k0 : 0 ≤ col := by omega
  have k1 : col < 8 := by omega
  have q5 := Lib.hid (fun W => bit5_c av av0 av1 W)
  have q6 := Lib.hid (fun W => bit6_c av av0 av1 W)
  rw [h5] at q5
  rw [h6] at q6
  have ew : IntKind.u8.wrap av = av := by rw [IntKind.wrap_u8]; omega
  have td : tl.tdiv 2 = tl / 2 := Int.tdiv_eq_ediv_of_nonneg tl0
  have tu : 7 < row := hu
  have DC := Lib.hid (fun W h => rdot_c vr V (tl / 2 * 2 + 1) (col) (row - 8) (by omega) (by omega) (by omega) (by omega) W h)
  skip
  rw [← hD2] at DC
  clear hD2 hgv hrv hcv htv h5 h6 h2 hb hrow hcol
  have ed : (D != 0) = (!decide (D = 0)) := by by_cases h : D = 0 <;> simp [h]
  go_enter Try.func65, Try.ntmps65
  have Q_ := own1 w (.cells #[.int .u8 c, .int .u8 bk, .int .u8 fi, .int .u8 se] 74)
  have B0 := Lib.hid (vian HN.out BB.out Q_)
  have P0 := Lib.hid (show Has (w.alloc (.cells #[.int .u8 c, .int .u8 bk, .int .u8 fi, .int .u8 se] 74)) w.heap.size #[.int .u8 c, .int .u8 bk, .int .u8 fi, .int .u8 se] by simpa using Has.new w #[.int .u8 c, .int .u8 bk, .int .u8 fi, .int .u8 se] 74)
  have LP := Lib.hid (show n_ ≤ w.heap.size + 0 from Nat.le_add_right_of_le (Nat.le_trans HN.out BB.out.size))
  simp only [Nat.add_zero] at LP
  clear Q_
  go_upto_region 1 with (fail)
  generalize (w.alloc (.cells #[.int .u8 c, .int .u8 bk, .int .u8 fi, .int .u8 se] 74)) = u0 at B0 P0 ⊢
  generalize w.heap.size = pb at P0 LP  ⊢
  obtain ⟨hc0, hf0⟩ := P0.out.out
  go_wp2_with (fail)
  clear hc0 hf0
  with_reducible refine (A0.out _ (HM1.out.at HN.out B0.out)).mono ?_
  rintro q_ w' ⟨rfl, rfl⟩
  obtain ⟨hc0, hf0⟩ := P0.out.out
  go_wp2_with (fail)
  clear hc0 hf0
  with_reducible refine (A1.out _ (HM1.out.at HN.out B0.out)).mono ?_
  rintro q_ w' ⟨rfl, rfl⟩
  obtain ⟨hc0, hf0⟩ := P0.out.out
  go_wp2_with (fail)
  clear hc0 hf0
  with_reducible refine (HG.out _).mono ?_
  rintro q_ u1 ⟨rfl, hb⟩
  have B1 := Lib.hid (vian HN.out B0.out hb)
  have P1 := Lib.hid (P0.out.below hb)
  clear hb B0 P0
  obtain ⟨hc0, hf0⟩ := P1.out.out
  go_wp2_with (fail)
  clear hc0 hf0
  with_reducible refine (A3.out _ (HM1.out.at HN.out B1.out)).mono ?_
  rintro q_ w' ⟨rfl, rfl⟩
  obtain ⟨hc0, hf0⟩ := P1.out.out
  go_wp2_with (fail)
  clear hc0 hf0
  with_reducible refine (q6.out _).mono ?_
  rintro q_ w' ⟨rfl, rfl⟩
  obtain ⟨hc0, hf0⟩ := P1.out.out
  go_wp2_with (fail)
  clear hc0 hf0
  with_reducible refine (q5.out _).mono ?_
  rintro q_ w' ⟨rfl, rfl⟩
  obtain ⟨hc0, hf0⟩ := P1.out.out
  go_wp2_with (fail)
  clear hc0 hf0
  with_reducible refine (A2.out _ (HM1.out.at HN.out B1.out)).mono ?_
  rintro q_ w' ⟨rfl, rfl⟩
  obtain ⟨hc0, hf0⟩ := P1.out.out
  go_wp2_with (fail)
  clear hc0 hf0
  with_reducible refine (HG.out _).mono ?_
  rintro q_ u2 ⟨rfl, hb⟩
  have B2 := Lib.hid (vian HN.out B1.out hb)
  have P2 := Lib.hid (P1.out.below hb)
  clear hb B1 P1
  obtain ⟨hc0, hf0⟩ := P2.out.out
  go_wp2_with (fail)
  clear hc0 hf0
  with_reducible refine (DC.out _ (HM0.out.at HN.out B2.out)).mono ?_
  rintro q_ w' ⟨rfl, rfl⟩
  go_wp2_with (fail)
  all_goals exact bodyPost_ret (v := .tuple #[.int .u8 D, .bool (decide (D ≠ 0))]) (by simp [results, Try.results65, go_sem] <;> exact ed) rfl ⟨rfl, B2.out⟩
set_option maxHeartbeats 4000000 in
theorem dotr_0100 (c bk fi se : Int) (c0 : 0 ≤ c) (c1 : c < 256) (bk0 : 0 ≤ bk) (bk1 : bk < 256) (fi0 : 0 ≤ fi) (fi1 : fi < 256) (se0 : 0 ≤ se) (se1 : se < 256) (vr ov : Value) (V O : M) (n : Nat) (hn : n < 40) (x line : Int) (x0 : -1000 ≤ x) (x1 : x ≤ 1000) (line0 : -1000 ≤ line) (line1 : line ≤ 1000) (hb : O (4 * n) - 16 ≤ line ∧ line < O (4 * n) - 16 + hgt c ∧ O (4 * n + 1) - 8 ≤ x ∧ x < O (4 * n + 1)) (h5 : bit (O (4 * n + 3)) 5 = 0) (h6 : bit (O (4 * n + 3)) 6 = 1) (h2 : bit c 2 = 0) (hu : ¬ 7 < (7 - (line - (O (4 * n) - 16)))) (w : World) (hM0 : Mem w vr V) (hM1 : Mem w ov O) : Calls Try.prog 65 #[.agg #[.int .u8 c, .int .u8 bk, .int .u8 fi, .int .u8 se], vr, ov, .int .i64 (n : Int), .int .i64 x, .int .i64 line] w fun q_ w' => q_ = .returned (.tuple #[.int .u8 (colV V O c n x line), .bool (decide (colV V O c n x line ≠ 0))]) ∧ Below w.heap.size w w' := by
  suffices hall : ∀ (n_ : Nat) (W0 : World), n_ ≤ W0.heap.size → Below n_ W0 w → MemB n_ W0 vr V → MemB n_ W0 ov O → Calls Try.prog 65 #[.agg #[.int .u8 c, .int .u8 bk, .int .u8 fi, .int .u8 se], vr, ov, .int .i64 (n : Int), .int .i64 x, .int .i64 line] w fun q_ w' => q_ = .returned (.tuple #[.int .u8 (colV V O c n x line), .bool (decide (colV V O c n x line ≠ 0))]) ∧ Below n_ W0 w' from hall _ _ (Nat.le_refl _) (Below.refl _ _) hM0 hM1
  clear hM0 hM1
  intro n_ W0 hn hB hM0 hM1
  have HN := Lib.hid hn
  have BB := Lib.hid hB
  clear hn hB
  have HM0 := Lib.hid hM0
  clear hM0
  have HM1 := Lib.hid hM1
  clear hM1
  have ok := HM1.out.ok
  have A0 := Lib.hid (fun W h => oat0_c ov O n hn W h)
  have A1 := Lib.hid (fun W h => oat1_c ov O n hn W h)
  have A2 := Lib.hid (fun W h => oat2_c ov O n hn W h)
  have A3 := Lib.hid (fun W h => oat3_c ov O n hn W h)
  have n0 : (0 : Int) ≤ (n : Int) := by omega
  have n1 : (n : Int) < 40 := by omega
  have n2 : ¬ (39 : Int) < (n : Int) := by omega
  have t0 : decide ((n : Int) < 0) = false := decide_eq_false (by omega)
  have t1 : decide (39 < (n : Int)) = false := decide_eq_false (by omega)
  have t2 : decide (x < -1000) = false := decide_eq_false (by omega)
  have t3 : decide (1000 < x) = false := decide_eq_false (by omega)
  have t4 : decide (line < -1000) = false := decide_eq_false (by omega)
  have t5 : decide (1000 < line) = false := decide_eq_false (by omega)
  obtain ⟨D, hD⟩ : ∃ q_, q_ = colV V O c n x line := ⟨_, rfl⟩
  have hD2 := hD
  rw [← hD]
  unfold colV inV at hD2
  obtain ⟨ys0, ys1⟩ := ok (4 * n)
  obtain ⟨xs0, xs1⟩ := ok (4 * n + 1)
  obtain ⟨tl0, tl1⟩ := ok (4 * n + 2)
  obtain ⟨av0, av1⟩ := ok (4 * n + 3)
  clear hD ok
  generalize O (4 * n) = ys at *
  generalize O (4 * n + 1) = xs at *
  generalize O (4 * n + 2) = tl at *
  generalize O (4 * n + 3) = av at *
  have HG := Lib.hid (fun W => rheight_c c bk fi se c0 c1 bk0 bk1 fi0 fi1 se0 se1 W)
  have hh := hgt_is c
  obtain ⟨row, hrow⟩ : ∃ q_, q_ = line - (ys - 16) := ⟨_, rfl⟩
  obtain ⟨col, hcol⟩ : ∃ q_, q_ = x - (xs - 8) := ⟨_, rfl⟩
  have er : line - ys + 16 = row := by omega
  have ec : x - xs + 8 = col := by omega
  rw [← hrow, ← hcol] at hD2
  rw [← hrow] at hu
  have hgv : hgt c = 8 := by unfold hgt; rw [h2]; rfl
  rw [hgv] at HG hb
  rw [if_pos ⟨by rw [Bool.and_eq_true, decide_eq_true_eq, decide_eq_true_eq]; exact ⟨hb.1, by rw [hgv]; exact hb.2.1⟩, hb.2.2⟩, paint_ref _ _ _ _ _ _ (by unfold rowV; rw [h6, hgv]; (show 0 ≤ (8 : Int) - 1 - row; omega)) (by unfold rowV; rw [h6, hgv]; (show (8 : Int) - 1 - row < 16; omega))] at hD2
  have hrv : rowV c av row = 7 - row := by unfold rowV; rw [h6, hgv]; (show (8 : Int) - 1 - row = 7 - row; omega)
  have hcv : colmV av col = col := by unfold colmV; rw [h5]; rfl
  have htv : tileV c tl = tl := by unfold tileV; rw [h2]; rfl
  rw [hrv, hcv, htv, if_neg hu, if_neg hu] at hD2
  have d1 : decide (row < 0) = false := decide_eq_false (by omega)
  have d2 : decide ((8 : Int) ≤ row) = false := decide_eq_false (by omega)
  have d3 : decide (col < 0) = false := decide_eq_false (by omega)
  have d4 : decide (7 < col) = false := decide_eq_false (by omega)
  have r0 : 0 ≤ row := by omega
  have r1 : row < 8 := by omega
  have k0 : 0 ≤ col := by omega
  have k1 : col < 8 := by omega
  have q5 := Lib.hid (fun W => bit5_c av av0 av1 W)
  have q6 := Lib.hid (fun W => bit6_c av av0 av1 W)
  rw [h5] at q5
  rw [h6] at q6
  have ew : IntKind.u8.wrap av = av := by rw [IntKind.wrap_u8]; omega
  have td : tl.tdiv 2 = tl / 2 := Int.tdiv_eq_ediv_of_nonneg tl0
  have tu : ¬ 7 < 7 - row := hu
  have DC := Lib.hid (fun W h => rdot_c vr V (tl) (col) (7 - row) (by omega) (by omega) (by omega) (by omega) W h)
  rw [Int.add_zero] at hD2
  rw [← hD2] at DC
  clear hD2 hgv hrv hcv htv h5 h6 h2 hb hrow hcol
  have ed : (D != 0) = (!decide (D = 0)) := by by_cases h : D = 0 <;> simp [h]
  go_enter Try.func65, Try.ntmps65
  have Q_ := own1 w (.cells #[.int .u8 c, .int .u8 bk, .int .u8 fi, .int .u8 se] 74)
  have B0 := Lib.hid (vian HN.out BB.out Q_)
  have P0 := Lib.hid (show Has (w.alloc (.cells #[.int .u8 c, .int .u8 bk, .int .u8 fi, .int .u8 se] 74)) w.heap.size #[.int .u8 c, .int .u8 bk, .int .u8 fi, .int .u8 se] by simpa using Has.new w #[.int .u8 c, .int .u8 bk, .int .u8 fi, .int .u8 se] 74)
  have LP := Lib.hid (show n_ ≤ w.heap.size + 0 from Nat.le_add_right_of_le (Nat.le_trans HN.out BB.out.size))
  simp only [Nat.add_zero] at LP
  clear Q_
  go_upto_region 1 with (fail)
  generalize (w.alloc (.cells #[.int .u8 c, .int .u8 bk, .int .u8 fi, .int .u8 se] 74)) = u0 at B0 P0 ⊢
  generalize w.heap.size = pb at P0 LP  ⊢
  obtain ⟨hc0, hf0⟩ := P0.out.out
  go_wp2_with (fail)
  clear hc0 hf0
  with_reducible refine (A0.out _ (HM1.out.at HN.out B0.out)).mono ?_
  rintro q_ w' ⟨rfl, rfl⟩
  obtain ⟨hc0, hf0⟩ := P0.out.out
  go_wp2_with (fail)
  clear hc0 hf0
  with_reducible refine (A1.out _ (HM1.out.at HN.out B0.out)).mono ?_
  rintro q_ w' ⟨rfl, rfl⟩
  obtain ⟨hc0, hf0⟩ := P0.out.out
  go_wp2_with (fail)
  clear hc0 hf0
  with_reducible refine (HG.out _).mono ?_
  rintro q_ u1 ⟨rfl, hb⟩
  have B1 := Lib.hid (vian HN.out B0.out hb)
  have P1 := Lib.hid (P0.out.below hb)
  clear hb B0 P0
  obtain ⟨hc0, hf0⟩ := P1.out.out
  go_wp2_with (fail)
  clear hc0 hf0
  with_reducible refine (A3.out _ (HM1.out.at HN.out B1.out)).mono ?_
  rintro q_ w' ⟨rfl, rfl⟩
  obtain ⟨hc0, hf0⟩ := P1.out.out
  go_wp2_with (fail)
  clear hc0 hf0
  with_reducible refine (q6.out _).mono ?_
  rintro q_ w' ⟨rfl, rfl⟩
  obtain ⟨hc0, hf0⟩ := P1.out.out
  go_wp2_with (fail)
  clear hc0 hf0
  with_reducible refine (HG.out _).mono ?_
  rintro q_ u2 ⟨rfl, hb⟩
  have B2 := Lib.hid (vian HN.out B1.out hb)
  have P2 := Lib.hid (P1.out.below hb)
  clear hb B1 P1
  obtain ⟨hc0, hf0⟩ := P2.out.out
  go_wp2_with (fail)
  clear hc0 hf0
  with_reducible refine (q5.out _).mono ?_
  rintro q_ w' ⟨rfl, rfl⟩
  obtain ⟨hc0, hf0⟩ := P2.out.out
  go_wp2_with (fail)
  clear hc0 hf0
  with_reducible refine (A2.out _ (HM1.out.at HN.out B2.out)).mono ?_
  rintro q_ w' ⟨rfl, rfl⟩
  obtain ⟨hc0, hf0⟩ := P2.out.out
  go_wp2_with (fail)
  clear hc0 hf0
  with_reducible refine (HG.out _).mono ?_
  rintro q_ u3 ⟨rfl, hb⟩
  have B3 := Lib.hid (vian HN.out B2.out hb)
  have P3 := Lib.hid (P2.out.below hb)
  clear hb B2 P2
  obtain ⟨hc0, hf0⟩ := P3.out.out
  go_wp2_with (fail)
  clear hc0 hf0
  with_reducible refine (DC.out _ (HM0.out.at HN.out B3.out)).mono ?_
  rintro q_ w' ⟨rfl, rfl⟩
  go_wp2_with (fail)
  all_goals exact bodyPost_ret (v := .tuple #[.int .u8 D, .bool (decide (D ≠ 0))]) (by simp [results, Try.results65, go_sem] <;> exact ed) rfl ⟨rfl, B3.out⟩
set_option maxHeartbeats 4000000 in
theorem dotr_0110 (c bk fi se : Int) (c0 : 0 ≤ c) (c1 : c < 256) (bk0 : 0 ≤ bk) (bk1 : bk < 256) (fi0 : 0 ≤ fi) (fi1 : fi < 256) (se0 : 0 ≤ se) (se1 : se < 256) (vr ov : Value) (V O : M) (n : Nat) (hn : n < 40) (x line : Int) (x0 : -1000 ≤ x) (x1 : x ≤ 1000) (line0 : -1000 ≤ line) (line1 : line ≤ 1000) (hb : O (4 * n) - 16 ≤ line ∧ line < O (4 * n) - 16 + hgt c ∧ O (4 * n + 1) - 8 ≤ x ∧ x < O (4 * n + 1)) (h5 : bit (O (4 * n + 3)) 5 = 0) (h6 : bit (O (4 * n + 3)) 6 = 1) (h2 : bit c 2 = 1) (hu : ¬ 7 < (15 - (line - (O (4 * n) - 16)))) (w : World) (hM0 : Mem w vr V) (hM1 : Mem w ov O) : Calls Try.prog 65 #[.agg #[.int .u8 c, .int .u8 bk, .int .u8 fi, .int .u8 se], vr, ov, .int .i64 (n : Int), .int .i64 x, .int .i64 line] w fun q_ w' => q_ = .returned (.tuple #[.int .u8 (colV V O c n x line), .bool (decide (colV V O c n x line ≠ 0))]) ∧ Below w.heap.size w w' := by
  suffices hall : ∀ (n_ : Nat) (W0 : World), n_ ≤ W0.heap.size → Below n_ W0 w → MemB n_ W0 vr V → MemB n_ W0 ov O → Calls Try.prog 65 #[.agg #[.int .u8 c, .int .u8 bk, .int .u8 fi, .int .u8 se], vr, ov, .int .i64 (n : Int), .int .i64 x, .int .i64 line] w fun q_ w' => q_ = .returned (.tuple #[.int .u8 (colV V O c n x line), .bool (decide (colV V O c n x line ≠ 0))]) ∧ Below n_ W0 w' from hall _ _ (Nat.le_refl _) (Below.refl _ _) hM0 hM1
  clear hM0 hM1
  intro n_ W0 hn hB hM0 hM1
  have HN := Lib.hid hn
  have BB := Lib.hid hB
  clear hn hB
  have HM0 := Lib.hid hM0
  clear hM0
  have HM1 := Lib.hid hM1
  clear hM1
  have ok := HM1.out.ok
  have A0 := Lib.hid (fun W h => oat0_c ov O n hn W h)
  have A1 := Lib.hid (fun W h => oat1_c ov O n hn W h)
  have A2 := Lib.hid (fun W h => oat2_c ov O n hn W h)
  have A3 := Lib.hid (fun W h => oat3_c ov O n hn W h)
  have n0 : (0 : Int) ≤ (n : Int) := by omega
  have n1 : (n : Int) < 40 := by omega
  have n2 : ¬ (39 : Int) < (n : Int) := by omega
  have t0 : decide ((n : Int) < 0) = false := decide_eq_false (by omega)
  have t1 : decide (39 < (n : Int)) = false := decide_eq_false (by omega)
  have t2 : decide (x < -1000) = false := decide_eq_false (by omega)
  have t3 : decide (1000 < x) = false := decide_eq_false (by omega)
  have t4 : decide (line < -1000) = false := decide_eq_false (by omega)
  have t5 : decide (1000 < line) = false := decide_eq_false (by omega)
  obtain ⟨D, hD⟩ : ∃ q_, q_ = colV V O c n x line := ⟨_, rfl⟩
  have hD2 := hD
  rw [← hD]
  unfold colV inV at hD2
  obtain ⟨ys0, ys1⟩ := ok (4 * n)
  obtain ⟨xs0, xs1⟩ := ok (4 * n + 1)
  obtain ⟨tl0, tl1⟩ := ok (4 * n + 2)
  obtain ⟨av0, av1⟩ := ok (4 * n + 3)
  clear hD ok
  generalize O (4 * n) = ys at *
  generalize O (4 * n + 1) = xs at *
  generalize O (4 * n + 2) = tl at *
  generalize O (4 * n + 3) = av at *
  have HG := Lib.hid (fun W => rheight_c c bk fi se c0 c1 bk0 bk1 fi0 fi1 se0 se1 W)
  have hh := hgt_is c
  obtain ⟨row, hrow⟩ : ∃ q_, q_ = line - (ys - 16) := ⟨_, rfl⟩
  obtain ⟨col, hcol⟩ : ∃ q_, q_ = x - (xs - 8) := ⟨_, rfl⟩
  have er : line - ys + 16 = row := by omega
  have ec : x - xs + 8 = col := by omega
  rw [← hrow, ← hcol] at hD2
  rw [← hrow] at hu
  have hgv : hgt c = 16 := by unfold hgt; rw [h2]; rfl
  rw [hgv] at HG hb
  rw [if_pos ⟨by rw [Bool.and_eq_true, decide_eq_true_eq, decide_eq_true_eq]; exact ⟨hb.1, by rw [hgv]; exact hb.2.1⟩, hb.2.2⟩, paint_ref _ _ _ _ _ _ (by unfold rowV; rw [h6, hgv]; (show 0 ≤ (16 : Int) - 1 - row; omega)) (by unfold rowV; rw [h6, hgv]; (show (16 : Int) - 1 - row < 16; omega))] at hD2
  have hrv : rowV c av row = 15 - row := by unfold rowV; rw [h6, hgv]; (show (16 : Int) - 1 - row = 15 - row; omega)
  have hcv : colmV av col = col := by unfold colmV; rw [h5]; rfl
  have htv : tileV c tl = tl / 2 * 2 := by unfold tileV; rw [h2]; rfl
  rw [hrv, hcv, htv, if_neg hu, if_neg hu] at hD2
  have d1 : decide (row < 0) = false := decide_eq_false (by omega)
  have d2 : decide ((16 : Int) ≤ row) = false := decide_eq_false (by omega)
  have d3 : decide (col < 0) = false := decide_eq_false (by omega)
  have d4 : decide (7 < col) = false := decide_eq_false (by omega)
  have r0 : 0 ≤ row := by omega
  have r1 : row < 16 := by omega
  have k0 : 0 ≤ col := by omega
  have k1 : col < 8 := by omega
  have q5 := Lib.hid (fun W => bit5_c av av0 av1 W)
  have q6 := Lib.hid (fun W => bit6_c av av0 av1 W)
  rw [h5] at q5
  rw [h6] at q6
  have ew : IntKind.u8.wrap av = av := by rw [IntKind.wrap_u8]; omega
  have td : tl.tdiv 2 = tl / 2 := Int.tdiv_eq_ediv_of_nonneg tl0
  have tu : ¬ 7 < 15 - row := hu
  have DC := Lib.hid (fun W h => rdot_c vr V (tl / 2 * 2) (col) (15 - row) (by omega) (by omega) (by omega) (by omega) W h)
  rw [Int.add_zero] at hD2
  rw [← hD2] at DC
  clear hD2 hgv hrv hcv htv h5 h6 h2 hb hrow hcol
  have ed : (D != 0) = (!decide (D = 0)) := by by_cases h : D = 0 <;> simp [h]
  go_enter Try.func65, Try.ntmps65
  have Q_ := own1 w (.cells #[.int .u8 c, .int .u8 bk, .int .u8 fi, .int .u8 se] 74)
  have B0 := Lib.hid (vian HN.out BB.out Q_)
  have P0 := Lib.hid (show Has (w.alloc (.cells #[.int .u8 c, .int .u8 bk, .int .u8 fi, .int .u8 se] 74)) w.heap.size #[.int .u8 c, .int .u8 bk, .int .u8 fi, .int .u8 se] by simpa using Has.new w #[.int .u8 c, .int .u8 bk, .int .u8 fi, .int .u8 se] 74)
  have LP := Lib.hid (show n_ ≤ w.heap.size + 0 from Nat.le_add_right_of_le (Nat.le_trans HN.out BB.out.size))
  simp only [Nat.add_zero] at LP
  clear Q_
  go_upto_region 1 with (fail)
  generalize (w.alloc (.cells #[.int .u8 c, .int .u8 bk, .int .u8 fi, .int .u8 se] 74)) = u0 at B0 P0 ⊢
  generalize w.heap.size = pb at P0 LP  ⊢
  obtain ⟨hc0, hf0⟩ := P0.out.out
  go_wp2_with (fail)
  clear hc0 hf0
  with_reducible refine (A0.out _ (HM1.out.at HN.out B0.out)).mono ?_
  rintro q_ w' ⟨rfl, rfl⟩
  obtain ⟨hc0, hf0⟩ := P0.out.out
  go_wp2_with (fail)
  clear hc0 hf0
  with_reducible refine (A1.out _ (HM1.out.at HN.out B0.out)).mono ?_
  rintro q_ w' ⟨rfl, rfl⟩
  obtain ⟨hc0, hf0⟩ := P0.out.out
  go_wp2_with (fail)
  clear hc0 hf0
  with_reducible refine (HG.out _).mono ?_
  rintro q_ u1 ⟨rfl, hb⟩
  have B1 := Lib.hid (vian HN.out B0.out hb)
  have P1 := Lib.hid (P0.out.below hb)
  clear hb B0 P0
  obtain ⟨hc0, hf0⟩ := P1.out.out
  go_wp2_with (fail)
  clear hc0 hf0
  with_reducible refine (A3.out _ (HM1.out.at HN.out B1.out)).mono ?_
  rintro q_ w' ⟨rfl, rfl⟩
  obtain ⟨hc0, hf0⟩ := P1.out.out
  go_wp2_with (fail)
  clear hc0 hf0
  with_reducible refine (q6.out _).mono ?_
  rintro q_ w' ⟨rfl, rfl⟩
  obtain ⟨hc0, hf0⟩ := P1.out.out
  go_wp2_with (fail)
  clear hc0 hf0
  with_reducible refine (HG.out _).mono ?_
  rintro q_ u2 ⟨rfl, hb⟩
  have B2 := Lib.hid (vian HN.out B1.out hb)
  have P2 := Lib.hid (P1.out.below hb)
  clear hb B1 P1
  obtain ⟨hc0, hf0⟩ := P2.out.out
  go_wp2_with (fail)
  clear hc0 hf0
  with_reducible refine (q5.out _).mono ?_
  rintro q_ w' ⟨rfl, rfl⟩
  obtain ⟨hc0, hf0⟩ := P2.out.out
  go_wp2_with (fail)
  clear hc0 hf0
  with_reducible refine (A2.out _ (HM1.out.at HN.out B2.out)).mono ?_
  rintro q_ w' ⟨rfl, rfl⟩
  obtain ⟨hc0, hf0⟩ := P2.out.out
  go_wp2_with (fail)
  clear hc0 hf0
  with_reducible refine (HG.out _).mono ?_
  rintro q_ u3 ⟨rfl, hb⟩
  have B3 := Lib.hid (vian HN.out B2.out hb)
  have P3 := Lib.hid (P2.out.below hb)
  clear hb B2 P2
  obtain ⟨hc0, hf0⟩ := P3.out.out
  go_wp2_with (fail)
  clear hc0 hf0
  with_reducible refine (DC.out _ (HM0.out.at HN.out B3.out)).mono ?_
  rintro q_ w' ⟨rfl, rfl⟩
  go_wp2_with (fail)
  all_goals exact bodyPost_ret (v := .tuple #[.int .u8 D, .bool (decide (D ≠ 0))]) (by simp [results, Try.results65, go_sem] <;> exact ed) rfl ⟨rfl, B3.out⟩
set_option maxHeartbeats 4000000 in
theorem dotr_0111 (c bk fi se : Int) (c0 : 0 ≤ c) (c1 : c < 256) (bk0 : 0 ≤ bk) (bk1 : bk < 256) (fi0 : 0 ≤ fi) (fi1 : fi < 256) (se0 : 0 ≤ se) (se1 : se < 256) (vr ov : Value) (V O : M) (n : Nat) (hn : n < 40) (x line : Int) (x0 : -1000 ≤ x) (x1 : x ≤ 1000) (line0 : -1000 ≤ line) (line1 : line ≤ 1000) (hb : O (4 * n) - 16 ≤ line ∧ line < O (4 * n) - 16 + hgt c ∧ O (4 * n + 1) - 8 ≤ x ∧ x < O (4 * n + 1)) (h5 : bit (O (4 * n + 3)) 5 = 0) (h6 : bit (O (4 * n + 3)) 6 = 1) (h2 : bit c 2 = 1) (hu :  7 < (15 - (line - (O (4 * n) - 16)))) (w : World) (hM0 : Mem w vr V) (hM1 : Mem w ov O) : Calls Try.prog 65 #[.agg #[.int .u8 c, .int .u8 bk, .int .u8 fi, .int .u8 se], vr, ov, .int .i64 (n : Int), .int .i64 x, .int .i64 line] w fun q_ w' => q_ = .returned (.tuple #[.int .u8 (colV V O c n x line), .bool (decide (colV V O c n x line ≠ 0))]) ∧ Below w.heap.size w w' := by
  suffices hall : ∀ (n_ : Nat) (W0 : World), n_ ≤ W0.heap.size → Below n_ W0 w → MemB n_ W0 vr V → MemB n_ W0 ov O → Calls Try.prog 65 #[.agg #[.int .u8 c, .int .u8 bk, .int .u8 fi, .int .u8 se], vr, ov, .int .i64 (n : Int), .int .i64 x, .int .i64 line] w fun q_ w' => q_ = .returned (.tuple #[.int .u8 (colV V O c n x line), .bool (decide (colV V O c n x line ≠ 0))]) ∧ Below n_ W0 w' from hall _ _ (Nat.le_refl _) (Below.refl _ _) hM0 hM1
  clear hM0 hM1
  intro n_ W0 hn hB hM0 hM1
  have HN := Lib.hid hn
  have BB := Lib.hid hB
  clear hn hB
  have HM0 := Lib.hid hM0
  clear hM0
  have HM1 := Lib.hid hM1
  clear hM1
  have ok := HM1.out.ok
  have A0 := Lib.hid (fun W h => oat0_c ov O n hn W h)
  have A1 := Lib.hid (fun W h => oat1_c ov O n hn W h)
  have A2 := Lib.hid (fun W h => oat2_c ov O n hn W h)
  have A3 := Lib.hid (fun W h => oat3_c ov O n hn W h)
  have n0 : (0 : Int) ≤ (n : Int) := by omega
  have n1 : (n : Int) < 40 := by omega
  have n2 : ¬ (39 : Int) < (n : Int) := by omega
  have t0 : decide ((n : Int) < 0) = false := decide_eq_false (by omega)
  have t1 : decide (39 < (n : Int)) = false := decide_eq_false (by omega)
  have t2 : decide (x < -1000) = false := decide_eq_false (by omega)
  have t3 : decide (1000 < x) = false := decide_eq_false (by omega)
  have t4 : decide (line < -1000) = false := decide_eq_false (by omega)
  have t5 : decide (1000 < line) = false := decide_eq_false (by omega)
  obtain ⟨D, hD⟩ : ∃ q_, q_ = colV V O c n x line := ⟨_, rfl⟩
  have hD2 := hD
  rw [← hD]
  unfold colV inV at hD2
  obtain ⟨ys0, ys1⟩ := ok (4 * n)
  obtain ⟨xs0, xs1⟩ := ok (4 * n + 1)
  obtain ⟨tl0, tl1⟩ := ok (4 * n + 2)
  obtain ⟨av0, av1⟩ := ok (4 * n + 3)
  clear hD ok
  generalize O (4 * n) = ys at *
  generalize O (4 * n + 1) = xs at *
  generalize O (4 * n + 2) = tl at *
  generalize O (4 * n + 3) = av at *
  have HG := Lib.hid (fun W => rheight_c c bk fi se c0 c1 bk0 bk1 fi0 fi1 se0 se1 W)
  have hh := hgt_is c
  obtain ⟨row, hrow⟩ : ∃ q_, q_ = line - (ys - 16) := ⟨_, rfl⟩
  obtain ⟨col, hcol⟩ : ∃ q_, q_ = x - (xs - 8) := ⟨_, rfl⟩
  have er : line - ys + 16 = row := by omega
  have ec : x - xs + 8 = col := by omega
  rw [← hrow, ← hcol] at hD2
  rw [← hrow] at hu
  have hgv : hgt c = 16 := by unfold hgt; rw [h2]; rfl
  rw [hgv] at HG hb
  rw [if_pos ⟨by rw [Bool.and_eq_true, decide_eq_true_eq, decide_eq_true_eq]; exact ⟨hb.1, by rw [hgv]; exact hb.2.1⟩, hb.2.2⟩, paint_ref _ _ _ _ _ _ (by unfold rowV; rw [h6, hgv]; (show 0 ≤ (16 : Int) - 1 - row; omega)) (by unfold rowV; rw [h6, hgv]; (show (16 : Int) - 1 - row < 16; omega))] at hD2
  have hrv : rowV c av row = 15 - row := by unfold rowV; rw [h6, hgv]; (show (16 : Int) - 1 - row = 15 - row; omega)
  have hcv : colmV av col = col := by unfold colmV; rw [h5]; rfl
  have htv : tileV c tl = tl / 2 * 2 := by unfold tileV; rw [h2]; rfl
  rw [hrv, hcv, htv, if_pos hu, if_pos hu] at hD2
  have d1 : decide (row < 0) = false := decide_eq_false (by omega)
  have d2 : decide ((16 : Int) ≤ row) = false := decide_eq_false (by omega)
  have d3 : decide (col < 0) = false := decide_eq_false (by omega)
  have d4 : decide (7 < col) = false := decide_eq_false (by omega)
  have r0 : 0 ≤ row := by omega
  have r1 : row < 16 := by omega
  have k0 : 0 ≤ col := by omega
  have k1 : col < 8 := by omega
  have q5 := Lib.hid (fun W => bit5_c av av0 av1 W)
  have q6 := Lib.hid (fun W => bit6_c av av0 av1 W)
  rw [h5] at q5
  rw [h6] at q6
  have ew : IntKind.u8.wrap av = av := by rw [IntKind.wrap_u8]; omega
  have td : tl.tdiv 2 = tl / 2 := Int.tdiv_eq_ediv_of_nonneg tl0
  have tu : 7 < 15 - row := hu
  have DC := Lib.hid (fun W h => rdot_c vr V (tl / 2 * 2 + 1) (col) (15 - row - 8) (by omega) (by omega) (by omega) (by omega) W h)
  skip
  rw [← hD2] at DC
  clear hD2 hgv hrv hcv htv h5 h6 h2 hb hrow hcol
  have ed : (D != 0) = (!decide (D = 0)) := by by_cases h : D = 0 <;> simp [h]
  go_enter Try.func65, Try.ntmps65
  have Q_ := own1 w (.cells #[.int .u8 c, .int .u8 bk, .int .u8 fi, .int .u8 se] 74)
  have B0 := Lib.hid (vian HN.out BB.out Q_)
  have P0 := Lib.hid (show Has (w.alloc (.cells #[.int .u8 c, .int .u8 bk, .int .u8 fi, .int .u8 se] 74)) w.heap.size #[.int .u8 c, .int .u8 bk, .int .u8 fi, .int .u8 se] by simpa using Has.new w #[.int .u8 c, .int .u8 bk, .int .u8 fi, .int .u8 se] 74)
  have LP := Lib.hid (show n_ ≤ w.heap.size + 0 from Nat.le_add_right_of_le (Nat.le_trans HN.out BB.out.size))
  simp only [Nat.add_zero] at LP
  clear Q_
  go_upto_region 1 with (fail)
  generalize (w.alloc (.cells #[.int .u8 c, .int .u8 bk, .int .u8 fi, .int .u8 se] 74)) = u0 at B0 P0 ⊢
  generalize w.heap.size = pb at P0 LP  ⊢
  obtain ⟨hc0, hf0⟩ := P0.out.out
  go_wp2_with (fail)
  clear hc0 hf0
  with_reducible refine (A0.out _ (HM1.out.at HN.out B0.out)).mono ?_
  rintro q_ w' ⟨rfl, rfl⟩
  obtain ⟨hc0, hf0⟩ := P0.out.out
  go_wp2_with (fail)
  clear hc0 hf0
  with_reducible refine (A1.out _ (HM1.out.at HN.out B0.out)).mono ?_
  rintro q_ w' ⟨rfl, rfl⟩
  obtain ⟨hc0, hf0⟩ := P0.out.out
  go_wp2_with (fail)
  clear hc0 hf0
  with_reducible refine (HG.out _).mono ?_
  rintro q_ u1 ⟨rfl, hb⟩
  have B1 := Lib.hid (vian HN.out B0.out hb)
  have P1 := Lib.hid (P0.out.below hb)
  clear hb B0 P0
  obtain ⟨hc0, hf0⟩ := P1.out.out
  go_wp2_with (fail)
  clear hc0 hf0
  with_reducible refine (A3.out _ (HM1.out.at HN.out B1.out)).mono ?_
  rintro q_ w' ⟨rfl, rfl⟩
  obtain ⟨hc0, hf0⟩ := P1.out.out
  go_wp2_with (fail)
  clear hc0 hf0
  with_reducible refine (q6.out _).mono ?_
  rintro q_ w' ⟨rfl, rfl⟩
  obtain ⟨hc0, hf0⟩ := P1.out.out
  go_wp2_with (fail)
  clear hc0 hf0
  with_reducible refine (HG.out _).mono ?_
  rintro q_ u2 ⟨rfl, hb⟩
  have B2 := Lib.hid (vian HN.out B1.out hb)
  have P2 := Lib.hid (P1.out.below hb)
  clear hb B1 P1
  obtain ⟨hc0, hf0⟩ := P2.out.out
  go_wp2_with (fail)
  clear hc0 hf0
  with_reducible refine (q5.out _).mono ?_
  rintro q_ w' ⟨rfl, rfl⟩
  obtain ⟨hc0, hf0⟩ := P2.out.out
  go_wp2_with (fail)
  clear hc0 hf0
  with_reducible refine (A2.out _ (HM1.out.at HN.out B2.out)).mono ?_
  rintro q_ w' ⟨rfl, rfl⟩
  obtain ⟨hc0, hf0⟩ := P2.out.out
  go_wp2_with (fail)
  clear hc0 hf0
  with_reducible refine (HG.out _).mono ?_
  rintro q_ u3 ⟨rfl, hb⟩
  have B3 := Lib.hid (vian HN.out B2.out hb)
  have P3 := Lib.hid (P2.out.below hb)
  clear hb B2 P2
  obtain ⟨hc0, hf0⟩ := P3.out.out
  go_wp2_with (fail)
  clear hc0 hf0
  with_reducible refine (DC.out _ (HM0.out.at HN.out B3.out)).mono ?_
  rintro q_ w' ⟨rfl, rfl⟩
  go_wp2_with (fail)
  all_goals exact bodyPost_ret (v := .tuple #[.int .u8 D, .bool (decide (D ≠ 0))]) (by simp [results, Try.results65, go_sem] <;> exact ed) rfl ⟨rfl, B3.out⟩
set_option maxHeartbeats 4000000 in
theorem dotr_1000 (c bk fi se : Int) (c0 : 0 ≤ c) (c1 : c < 256) (bk0 : 0 ≤ bk) (bk1 : bk < 256) (fi0 : 0 ≤ fi) (fi1 : fi < 256) (se0 : 0 ≤ se) (se1 : se < 256) (vr ov : Value) (V O : M) (n : Nat) (hn : n < 40) (x line : Int) (x0 : -1000 ≤ x) (x1 : x ≤ 1000) (line0 : -1000 ≤ line) (line1 : line ≤ 1000) (hb : O (4 * n) - 16 ≤ line ∧ line < O (4 * n) - 16 + hgt c ∧ O (4 * n + 1) - 8 ≤ x ∧ x < O (4 * n + 1)) (h5 : bit (O (4 * n + 3)) 5 = 1) (h6 : bit (O (4 * n + 3)) 6 = 0) (h2 : bit c 2 = 0) (hu : ¬ 7 < ((line - (O (4 * n) - 16)))) (w : World) (hM0 : Mem w vr V) (hM1 : Mem w ov O) : Calls Try.prog 65 #[.agg #[.int .u8 c, .int .u8 bk, .int .u8 fi, .int .u8 se], vr, ov, .int .i64 (n : Int), .int .i64 x, .int .i64 line] w fun q_ w' => q_ = .returned (.tuple #[.int .u8 (colV V O c n x line), .bool (decide (colV V O c n x line ≠ 0))]) ∧ Below w.heap.size w w' := by
  suffices hall : ∀ (n_ : Nat) (W0 : World), n_ ≤ W0.heap.size → Below n_ W0 w → MemB n_ W0 vr V → MemB n_ W0 ov O → Calls Try.prog 65 #[.agg #[.int .u8 c, .int .u8 bk, .int .u8 fi, .int .u8 se], vr, ov, .int .i64 (n : Int), .int .i64 x, .int .i64 line] w fun q_ w' => q_ = .returned (.tuple #[.int .u8 (colV V O c n x line), .bool (decide (colV V O c n x line ≠ 0))]) ∧ Below n_ W0 w' from hall _ _ (Nat.le_refl _) (Below.refl _ _) hM0 hM1
  clear hM0 hM1
  intro n_ W0 hn hB hM0 hM1
  have HN := Lib.hid hn
  have BB := Lib.hid hB
  clear hn hB
  have HM0 := Lib.hid hM0
  clear hM0
  have HM1 := Lib.hid hM1
  clear hM1
  have ok := HM1.out.ok
  have A0 := Lib.hid (fun W h => oat0_c ov O n hn W h)
  have A1 := Lib.hid (fun W h => oat1_c ov O n hn W h)
  have A2 := Lib.hid (fun W h => oat2_c ov O n hn W h)
  have A3 := Lib.hid (fun W h => oat3_c ov O n hn W h)
  have n0 : (0 : Int) ≤ (n : Int) := by omega
  have n1 : (n : Int) < 40 := by omega
  have n2 : ¬ (39 : Int) < (n : Int) := by omega
  have t0 : decide ((n : Int) < 0) = false := decide_eq_false (by omega)
  have t1 : decide (39 < (n : Int)) = false := decide_eq_false (by omega)
  have t2 : decide (x < -1000) = false := decide_eq_false (by omega)
  have t3 : decide (1000 < x) = false := decide_eq_false (by omega)
  have t4 : decide (line < -1000) = false := decide_eq_false (by omega)
  have t5 : decide (1000 < line) = false := decide_eq_false (by omega)
  obtain ⟨D, hD⟩ : ∃ q_, q_ = colV V O c n x line := ⟨_, rfl⟩
  have hD2 := hD
  rw [← hD]
  unfold colV inV at hD2
  obtain ⟨ys0, ys1⟩ := ok (4 * n)
  obtain ⟨xs0, xs1⟩ := ok (4 * n + 1)
  obtain ⟨tl0, tl1⟩ := ok (4 * n + 2)
  obtain ⟨av0, av1⟩ := ok (4 * n + 3)
  clear hD ok
  generalize O (4 * n) = ys at *
  generalize O (4 * n + 1) = xs at *
  generalize O (4 * n + 2) = tl at *
  generalize O (4 * n + 3) = av at *
  have HG := Lib.hid (fun W => rheight_c c bk fi se c0 c1 bk0 bk1 fi0 fi1 se0 se1 W)
  have hh := hgt_is c
  obtain ⟨row, hrow⟩ : ∃ q_, q_ = line - (ys - 16) := ⟨_, rfl⟩
  obtain ⟨col, hcol⟩ : ∃ q_, q_ = x - (xs - 8) := ⟨_, rfl⟩
  have er : line - ys + 16 = row := by omega
  have ec : x - xs + 8 = col := by omega
  rw [← hrow, ← hcol] at hD2
  rw [← hrow] at hu
  have hgv : hgt c = 8 := by unfold hgt; rw [h2]; rfl
  rw [hgv] at HG hb
  rw [if_pos ⟨by rw [Bool.and_eq_true, decide_eq_true_eq, decide_eq_true_eq]; exact ⟨hb.1, by rw [hgv]; exact hb.2.1⟩, hb.2.2⟩, paint_ref _ _ _ _ _ _ (by unfold rowV; rw [h6, hgv]; (show 0 ≤ row; omega)) (by unfold rowV; rw [h6, hgv]; (show row < 16; omega))] at hD2
  have hrv : rowV c av row = row := by unfold rowV; rw [h6]; rfl
  have hcv : colmV av col = 7 - col := by unfold colmV; rw [h5]; rfl
  have htv : tileV c tl = tl := by unfold tileV; rw [h2]; rfl
  rw [hrv, hcv, htv, if_neg hu, if_neg hu] at hD2
  have d1 : decide (row < 0) = false := decide_eq_false (by omega)
  have d2 : decide ((8 : Int) ≤ row) = false := decide_eq_false (by omega)
  have d3 : decide (col < 0) = false := decide_eq_false (by omega)
  have d4 : decide (7 < col) = false := decide_eq_false (by omega)
  have r0 : 0 ≤ row := by omega
  have r1 : row < 8 := by omega
  have k0 : 0 ≤ col := by omega
  have k1 : col < 8 := by omega
  have q5 := Lib.hid (fun W => bit5_c av av0 av1 W)
  have q6 := Lib.hid (fun W => bit6_c av av0 av1 W)
  rw [h5] at q5
  rw [h6] at q6
  have ew : IntKind.u8.wrap av = av := by rw [IntKind.wrap_u8]; omega
  have td : tl.tdiv 2 = tl / 2 := Int.tdiv_eq_ediv_of_nonneg tl0
  have tu : ¬ 7 < row := hu
  have DC := Lib.hid (fun W h => rdot_c vr V (tl) (7 - col) (row) (by omega) (by omega) (by omega) (by omega) W h)
  rw [Int.add_zero] at hD2
  rw [← hD2] at DC
  clear hD2 hgv hrv hcv htv h5 h6 h2 hb hrow hcol
  have ed : (D != 0) = (!decide (D = 0)) := by by_cases h : D = 0 <;> simp [h]
  go_enter Try.func65, Try.ntmps65
  have Q_ := own1 w (.cells #[.int .u8 c, .int .u8 bk, .int .u8 fi, .int .u8 se] 74)
  have B0 := Lib.hid (vian HN.out BB.out Q_)
  have P0 := Lib.hid (show Has (w.alloc (.cells #[.int .u8 c, .int .u8 bk, .int .u8 fi, .int .u8 se] 74)) w.heap.size #[.int .u8 c, .int .u8 bk, .int .u8 fi, .int .u8 se] by simpa using Has.new w #[.int .u8 c, .int .u8 bk, .int .u8 fi, .int .u8 se] 74)
  have LP := Lib.hid (show n_ ≤ w.heap.size + 0 from Nat.le_add_right_of_le (Nat.le_trans HN.out BB.out.size))
  simp only [Nat.add_zero] at LP
  clear Q_
  go_upto_region 1 with (fail)
  generalize (w.alloc (.cells #[.int .u8 c, .int .u8 bk, .int .u8 fi, .int .u8 se] 74)) = u0 at B0 P0 ⊢
  generalize w.heap.size = pb at P0 LP  ⊢
  obtain ⟨hc0, hf0⟩ := P0.out.out
  go_wp2_with (fail)
  clear hc0 hf0
  with_reducible refine (A0.out _ (HM1.out.at HN.out B0.out)).mono ?_
  rintro q_ w' ⟨rfl, rfl⟩
  obtain ⟨hc0, hf0⟩ := P0.out.out
  go_wp2_with (fail)
  clear hc0 hf0
  with_reducible refine (A1.out _ (HM1.out.at HN.out B0.out)).mono ?_
  rintro q_ w' ⟨rfl, rfl⟩
  obtain ⟨hc0, hf0⟩ := P0.out.out
  go_wp2_with (fail)
  clear hc0 hf0
  with_reducible refine (HG.out _).mono ?_
  rintro q_ u1 ⟨rfl, hb⟩
  have B1 := Lib.hid (vian HN.out B0.out hb)
  have P1 := Lib.hid (P0.out.below hb)
  clear hb B0 P0
  obtain ⟨hc0, hf0⟩ := P1.out.out
  go_wp2_with (fail)
  clear hc0 hf0
  with_reducible refine (A3.out _ (HM1.out.at HN.out B1.out)).mono ?_
  rintro q_ w' ⟨rfl, rfl⟩
  obtain ⟨hc0, hf0⟩ := P1.out.out
  go_wp2_with (fail)
  clear hc0 hf0
  with_reducible refine (q6.out _).mono ?_
  rintro q_ w' ⟨rfl, rfl⟩
  obtain ⟨hc0, hf0⟩ := P1.out.out
  go_wp2_with (fail)
  clear hc0 hf0
  with_reducible refine (q5.out _).mono ?_
  rintro q_ w' ⟨rfl, rfl⟩
  obtain ⟨hc0, hf0⟩ := P1.out.out
  go_wp2_with (fail)
  clear hc0 hf0
  with_reducible refine (A2.out _ (HM1.out.at HN.out B1.out)).mono ?_
  rintro q_ w' ⟨rfl, rfl⟩
  obtain ⟨hc0, hf0⟩ := P1.out.out
  go_wp2_with (fail)
  clear hc0 hf0
  with_reducible refine (HG.out _).mono ?_
  rintro q_ u2 ⟨rfl, hb⟩
  have B2 := Lib.hid (vian HN.out B1.out hb)
  have P2 := Lib.hid (P1.out.below hb)
  clear hb B1 P1
  obtain ⟨hc0, hf0⟩ := P2.out.out
  go_wp2_with (fail)
  clear hc0 hf0
  with_reducible refine (DC.out _ (HM0.out.at HN.out B2.out)).mono ?_
  rintro q_ w' ⟨rfl, rfl⟩
  go_wp2_with (fail)
  all_goals exact bodyPost_ret (v := .tuple #[.int .u8 D, .bool (decide (D ≠ 0))]) (by simp [results, Try.results65, go_sem] <;> exact ed) rfl ⟨rfl, B2.out⟩
set_option maxHeartbeats 4000000 in
theorem dotr_1010 (c bk fi se : Int) (c0 : 0 ≤ c) (c1 : c < 256) (bk0 : 0 ≤ bk) (bk1 : bk < 256) (fi0 : 0 ≤ fi) (fi1 : fi < 256) (se0 : 0 ≤ se) (se1 : se < 256) (vr ov : Value) (V O : M) (n : Nat) (hn : n < 40) (x line : Int) (x0 : -1000 ≤ x) (x1 : x ≤ 1000) (line0 : -1000 ≤ line) (line1 : line ≤ 1000) (hb : O (4 * n) - 16 ≤ line ∧ line < O (4 * n) - 16 + hgt c ∧ O (4 * n + 1) - 8 ≤ x ∧ x < O (4 * n + 1)) (h5 : bit (O (4 * n + 3)) 5 = 1) (h6 : bit (O (4 * n + 3)) 6 = 0) (h2 : bit c 2 = 1) (hu : ¬ 7 < ((line - (O (4 * n) - 16)))) (w : World) (hM0 : Mem w vr V) (hM1 : Mem w ov O) : Calls Try.prog 65 #[.agg #[.int .u8 c, .int .u8 bk, .int .u8 fi, .int .u8 se], vr, ov, .int .i64 (n : Int), .int .i64 x, .int .i64 line] w fun q_ w' => q_ = .returned (.tuple #[.int .u8 (colV V O c n x line), .bool (decide (colV V O c n x line ≠ 0))]) ∧ Below w.heap.size w w' := by
  suffices hall : ∀ (n_ : Nat) (W0 : World), n_ ≤ W0.heap.size → Below n_ W0 w → MemB n_ W0 vr V → MemB n_ W0 ov O → Calls Try.prog 65 #[.agg #[.int .u8 c, .int .u8 bk, .int .u8 fi, .int .u8 se], vr, ov, .int .i64 (n : Int), .int .i64 x, .int .i64 line] w fun q_ w' => q_ = .returned (.tuple #[.int .u8 (colV V O c n x line), .bool (decide (colV V O c n x line ≠ 0))]) ∧ Below n_ W0 w' from hall _ _ (Nat.le_refl _) (Below.refl _ _) hM0 hM1
  clear hM0 hM1
  intro n_ W0 hn hB hM0 hM1
  have HN := Lib.hid hn
  have BB := Lib.hid hB
  clear hn hB
  have HM0 := Lib.hid hM0
  clear hM0
  have HM1 := Lib.hid hM1
  clear hM1
  have ok := HM1.out.ok
  have A0 := Lib.hid (fun W h => oat0_c ov O n hn W h)
  have A1 := Lib.hid (fun W h => oat1_c ov O n hn W h)
  have A2 := Lib.hid (fun W h => oat2_c ov O n hn W h)
  have A3 := Lib.hid (fun W h => oat3_c ov O n hn W h)
  have n0 : (0 : Int) ≤ (n : Int) := by omega
  have n1 : (n : Int) < 40 := by omega
  have n2 : ¬ (39 : Int) < (n : Int) := by omega
  have t0 : decide ((n : Int) < 0) = false := decide_eq_false (by omega)
  have t1 : decide (39 < (n : Int)) = false := decide_eq_false (by omega)
  have t2 : decide (x < -1000) = false := decide_eq_false (by omega)
  have t3 : decide (1000 < x) = false := decide_eq_false (by omega)
  have t4 : decide (line < -1000) = false := decide_eq_false (by omega)
  have t5 : decide (1000 < line) = false := decide_eq_false (by omega)
  obtain ⟨D, hD⟩ : ∃ q_, q_ = colV V O c n x line := ⟨_, rfl⟩
  have hD2 := hD
  rw [← hD]
  unfold colV inV at hD2
  obtain ⟨ys0, ys1⟩ := ok (4 * n)
  obtain ⟨xs0, xs1⟩ := ok (4 * n + 1)
  obtain ⟨tl0, tl1⟩ := ok (4 * n + 2)
  obtain ⟨av0, av1⟩ := ok (4 * n + 3)
  clear hD ok
  generalize O (4 * n) = ys at *
  generalize O (4 * n + 1) = xs at *
  generalize O (4 * n + 2) = tl at *
  generalize O (4 * n + 3) = av at *
  have HG := Lib.hid (fun W => rheight_c c bk fi se c0 c1 bk0 bk1 fi0 fi1 se0 se1 W)
  have hh := hgt_is c
  obtain ⟨row, hrow⟩ : ∃ q_, q_ = line - (ys - 16) := ⟨_, rfl⟩
  obtain ⟨col, hcol⟩ : ∃ q_, q_ = x - (xs - 8) := ⟨_, rfl⟩
  have er : line - ys + 16 = row := by omega
  have ec : x - xs + 8 = col := by omega
  rw [← hrow, ← hcol] at hD2
  rw [← hrow] at hu
  have hgv : hgt c = 16 := by unfold hgt; rw [h2]; rfl
  rw [hgv] at HG hb
  rw [if_pos ⟨by rw [Bool.and_eq_true, decide_eq_true_eq, decide_eq_true_eq]; exact ⟨hb.1, by rw [hgv]; exact hb.2.1⟩, hb.2.2⟩, paint_ref _ _ _ _ _ _ (by unfold rowV; rw [h6, hgv]; (show 0 ≤ row; omega)) (by unfold rowV; rw [h6, hgv]; (show row < 16; omega))] at hD2
  have hrv : rowV c av row = row := by unfold rowV; rw [h6]; rfl
  have hcv : colmV av col = 7 - col := by unfold colmV; rw [h5]; rfl
  have htv : tileV c tl = tl / 2 * 2 := by unfold tileV; rw [h2]; rfl
  rw [hrv, hcv, htv, if_neg hu, if_neg hu] at hD2
  have d1 : decide (row < 0) = false := decide_eq_false (by omega)
  have d2 : decide ((16 : Int) ≤ row) = false := decide_eq_false (by omega)
  have d3 : decide (col < 0) = false := decide_eq_false (by omega)
  have d4 : decide (7 < col) = false := decide_eq_false (by omega)
  have r0 : 0 ≤ row := by omega
  have r1 : row < 16 := by omega
  have k0 : 0 ≤ col := by omega
  have k1 : col < 8 := by omega
  have q5 := Lib.hid (fun W => bit5_c av av0 av1 W)
  have q6 := Lib.hid (fun W => bit6_c av av0 av1 W)
  rw [h5] at q5
  rw [h6] at q6
  have ew : IntKind.u8.wrap av = av := by rw [IntKind.wrap_u8]; omega
  have td : tl.tdiv 2 = tl / 2 := Int.tdiv_eq_ediv_of_nonneg tl0
  have tu : ¬ 7 < row := hu
  have DC := Lib.hid (fun W h => rdot_c vr V (tl / 2 * 2) (7 - col) (row) (by omega) (by omega) (by omega) (by omega) W h)
  rw [Int.add_zero] at hD2
  rw [← hD2] at DC
  clear hD2 hgv hrv hcv htv h5 h6 h2 hb hrow hcol
  have ed : (D != 0) = (!decide (D = 0)) := by by_cases h : D = 0 <;> simp [h]
  go_enter Try.func65, Try.ntmps65
  have Q_ := own1 w (.cells #[.int .u8 c, .int .u8 bk, .int .u8 fi, .int .u8 se] 74)
  have B0 := Lib.hid (vian HN.out BB.out Q_)
  have P0 := Lib.hid (show Has (w.alloc (.cells #[.int .u8 c, .int .u8 bk, .int .u8 fi, .int .u8 se] 74)) w.heap.size #[.int .u8 c, .int .u8 bk, .int .u8 fi, .int .u8 se] by simpa using Has.new w #[.int .u8 c, .int .u8 bk, .int .u8 fi, .int .u8 se] 74)
  have LP := Lib.hid (show n_ ≤ w.heap.size + 0 from Nat.le_add_right_of_le (Nat.le_trans HN.out BB.out.size))
  simp only [Nat.add_zero] at LP
  clear Q_
  go_upto_region 1 with (fail)
  generalize (w.alloc (.cells #[.int .u8 c, .int .u8 bk, .int .u8 fi, .int .u8 se] 74)) = u0 at B0 P0 ⊢
  generalize w.heap.size = pb at P0 LP  ⊢
  obtain ⟨hc0, hf0⟩ := P0.out.out
  go_wp2_with (fail)
  clear hc0 hf0
  with_reducible refine (A0.out _ (HM1.out.at HN.out B0.out)).mono ?_
  rintro q_ w' ⟨rfl, rfl⟩
  obtain ⟨hc0, hf0⟩ := P0.out.out
  go_wp2_with (fail)
  clear hc0 hf0
  with_reducible refine (A1.out _ (HM1.out.at HN.out B0.out)).mono ?_
  rintro q_ w' ⟨rfl, rfl⟩
  obtain ⟨hc0, hf0⟩ := P0.out.out
  go_wp2_with (fail)
  clear hc0 hf0
  with_reducible refine (HG.out _).mono ?_
  rintro q_ u1 ⟨rfl, hb⟩
  have B1 := Lib.hid (vian HN.out B0.out hb)
  have P1 := Lib.hid (P0.out.below hb)
  clear hb B0 P0
  obtain ⟨hc0, hf0⟩ := P1.out.out
  go_wp2_with (fail)
  clear hc0 hf0
  with_reducible refine (A3.out _ (HM1.out.at HN.out B1.out)).mono ?_
  rintro q_ w' ⟨rfl, rfl⟩
  obtain ⟨hc0, hf0⟩ := P1.out.out
  go_wp2_with (fail)
  clear hc0 hf0
  with_reducible refine (q6.out _).mono ?_
  rintro q_ w' ⟨rfl, rfl⟩
  obtain ⟨hc0, hf0⟩ := P1.out.out
  go_wp2_with (fail)
  clear hc0 hf0
  with_reducible refine (q5.out _).mono ?_
  rintro q_ w' ⟨rfl, rfl⟩
  obtain ⟨hc0, hf0⟩ := P1.out.out
  go_wp2_with (fail)
  clear hc0 hf0
  with_reducible refine (A2.out _ (HM1.out.at HN.out B1.out)).mono ?_
  rintro q_ w' ⟨rfl, rfl⟩
  obtain ⟨hc0, hf0⟩ := P1.out.out
  go_wp2_with (fail)
  clear hc0 hf0
  with_reducible refine (HG.out _).mono ?_
  rintro q_ u2 ⟨rfl, hb⟩
  have B2 := Lib.hid (vian HN.out B1.out hb)
  have P2 := Lib.hid (P1.out.below hb)
  clear hb B1 P1
  obtain ⟨hc0, hf0⟩ := P2.out.out
  go_wp2_with (fail)
  clear hc0 hf0
  with_reducible refine (DC.out _ (HM0.out.at HN.out B2.out)).mono ?_
  rintro q_ w' ⟨rfl, rfl⟩
  go_wp2_with (fail)
  all_goals exact bodyPost_ret (v := .tuple #[.int .u8 D, .bool (decide (D ≠ 0))]) (by simp [results, Try.results65, go_sem] <;> exact ed) rfl ⟨rfl, B2.out⟩
set_option maxHeartbeats 4000000 in
theorem dotr_1011 (c bk fi se : Int) (c0 : 0 ≤ c) (c1 : c < 256) (bk0 : 0 ≤ bk) (bk1 : bk < 256) (fi0 : 0 ≤ fi) (fi1 : fi < 256) (se0 : 0 ≤ se) (se1 : se < 256) (vr ov : Value) (V O : M) (n : Nat) (hn : n < 40) (x line : Int) (x0 : -1000 ≤ x) (x1 : x ≤ 1000) (line0 : -1000 ≤ line) (line1 : line ≤ 1000) (hb : O (4 * n) - 16 ≤ line ∧ line < O (4 * n) - 16 + hgt c ∧ O (4 * n + 1) - 8 ≤ x ∧ x < O (4 * n + 1)) (h5 : bit (O (4 * n + 3)) 5 = 1) (h6 : bit (O (4 * n + 3)) 6 = 0) (h2 : bit c 2 = 1) (hu :  7 < ((line - (O (4 * n) - 16)))) (w : World) (hM0 : Mem w vr V) (hM1 : Mem w ov O) : Calls Try.prog 65 #[.agg #[.int .u8 c, .int .u8 bk, .int .u8 fi, .int .u8 se], vr, ov, .int .i64 (n : Int), .int .i64 x, .int .i64 line] w fun q_ w' => q_ = .returned (.tuple #[.int .u8 (colV V O c n x line), .bool (decide (colV V O c n x line ≠ 0))]) ∧ Below w.heap.size w w' := by
  suffices hall : ∀ (n_ : Nat) (W0 : World), n_ ≤ W0.heap.size → Below n_ W0 w → MemB n_ W0 vr V → MemB n_ W0 ov O → Calls Try.prog 65 #[.agg #[.int .u8 c, .int .u8 bk, .int .u8 fi, .int .u8 se], vr, ov, .int .i64 (n : Int), .int .i64 x, .int .i64 line] w fun q_ w' => q_ = .returned (.tuple #[.int .u8 (colV V O c n x line), .bool (decide (colV V O c n x line ≠ 0))]) ∧ Below n_ W0 w' from hall _ _ (Nat.le_refl _) (Below.refl _ _) hM0 hM1
  clear hM0 hM1
  intro n_ W0 hn hB hM0 hM1
  have HN := Lib.hid hn
  have BB := Lib.hid hB
  clear hn hB
  have HM0 := Lib.hid hM0
  clear hM0
  have HM1 := Lib.hid hM1
  clear hM1
  have ok := HM1.out.ok
  have A0 := Lib.hid (fun W h => oat0_c ov O n hn W h)
  have A1 := Lib.hid (fun W h => oat1_c ov O n hn W h)
  have A2 := Lib.hid (fun W h => oat2_c ov O n hn W h)
  have A3 := Lib.hid (fun W h => oat3_c ov O n hn W h)
  have n0 : (0 : Int) ≤ (n : Int) := by omega
  have n1 : (n : Int) < 40 := by omega
  have n2 : ¬ (39 : Int) < (n : Int) := by omega
  have t0 : decide ((n : Int) < 0) = false := decide_eq_false (by omega)
  have t1 : decide (39 < (n : Int)) = false := decide_eq_false (by omega)
  have t2 : decide (x < -1000) = false := decide_eq_false (by omega)
  have t3 : decide (1000 < x) = false := decide_eq_false (by omega)
  have t4 : decide (line < -1000) = false := decide_eq_false (by omega)
  have t5 : decide (1000 < line) = false := decide_eq_false (by omega)
  obtain ⟨D, hD⟩ : ∃ q_, q_ = colV V O c n x line := ⟨_, rfl⟩
  have hD2 := hD
  rw [← hD]
  unfold colV inV at hD2
  obtain ⟨ys0, ys1⟩ := ok (4 * n)
  obtain ⟨xs0, xs1⟩ := ok (4 * n + 1)
  obtain ⟨tl0, tl1⟩ := ok (4 * n + 2)
  obtain ⟨av0, av1⟩ := ok (4 * n + 3)
  clear hD ok
  generalize O (4 * n) = ys at *
  generalize O (4 * n + 1) = xs at *
  generalize O (4 * n + 2) = tl at *
  generalize O (4 * n + 3) = av at *
  have HG := Lib.hid (fun W => rheight_c c bk fi se c0 c1 bk0 bk1 fi0 fi1 se0 se1 W)
  have hh := hgt_is c
  obtain ⟨row, hrow⟩ : ∃ q_, q_ = line - (ys - 16) := ⟨_, rfl⟩
  obtain ⟨col, hcol⟩ : ∃ q_, q_ = x - (xs - 8) := ⟨_, rfl⟩
  have er : line - ys + 16 = row := by omega
  have ec : x - xs + 8 = col := by omega
  rw [← hrow, ← hcol] at hD2
  rw [← hrow] at hu
  have hgv : hgt c = 16 := by unfold hgt; rw [h2]; rfl
  rw [hgv] at HG hb
  rw [if_pos ⟨by rw [Bool.and_eq_true, decide_eq_true_eq, decide_eq_true_eq]; exact ⟨hb.1, by rw [hgv]; exact hb.2.1⟩, hb.2.2⟩, paint_ref _ _ _ _ _ _ (by unfold rowV; rw [h6, hgv]; (show 0 ≤ row; omega)) (by unfold rowV; rw [h6, hgv]; (show row < 16; omega))] at hD2
  have hrv : rowV c av row = row := by unfold rowV; rw [h6]; rfl
  have hcv : colmV av col = 7 - col := by unfold colmV; rw [h5]; rfl
  have htv : tileV c tl = tl / 2 * 2 := by unfold tileV; rw [h2]; rfl
  rw [hrv, hcv, htv, if_pos hu, if_pos hu] at hD2
  have d1 : decide (row < 0) = false := decide_eq_false (by omega)
  have d2 : decide ((16 : Int) ≤ row) = false := decide_eq_false (by omega)
  have d3 : decide (col < 0) = false := decide_eq_false (by omega)
  have d4 : decide (7 < col) = false := decide_eq_false (by omega)
  have r0 : 0 ≤ row := by omega
  have r1 : row < 16 := by omega
  have k0 : 0 ≤ col := by omega
  have k1 : col < 8 := by omega
  have q5 := Lib.hid (fun W => bit5_c av av0 av1 W)
  have q6 := Lib.hid (fun W => bit6_c av av0 av1 W)
  rw [h5] at q5
  rw [h6] at q6
  have ew : IntKind.u8.wrap av = av := by rw [IntKind.wrap_u8]; omega
  have td : tl.tdiv 2 = tl / 2 := Int.tdiv_eq_ediv_of_nonneg tl0
  have tu : 7 < row := hu
  have DC := Lib.hid (fun W h => rdot_c vr V (tl / 2 * 2 + 1) (7 - col) (row - 8) (by omega) (by omega) (by omega) (by omega) W h)
  skip
  rw [← hD2] at DC
  clear hD2 hgv hrv hcv htv h5 h6 h2 hb hrow hcol
  have ed : (D != 0) = (!decide (D = 0)) := by by_cases h : D = 0 <;> simp [h]
  go_enter Try.func65, Try.ntmps65
  have Q_ := own1 w (.cells #[.int .u8 c, .int .u8 bk, .int .u8 fi, .int .u8 se] 74)
  have B0 := Lib.hid (vian HN.out BB.out Q_)
  have P0 := Lib.hid (show Has (w.alloc (.cells #[.int .u8 c, .int .u8 bk, .int .u8 fi, .int .u8 se] 74)) w.heap.size #[.int .u8 c, .int .u8 bk, .int .u8 fi, .int .u8 se] by simpa using Has.new w #[.int .u8 c, .int .u8 bk, .int .u8 fi, .int .u8 se] 74)
  have LP := Lib.hid (show n_ ≤ w.heap.size + 0 from Nat.le_add_right_of_le (Nat.le_trans HN.out BB.out.size))
  simp only [Nat.add_zero] at LP
  clear Q_
  go_upto_region 1 with (fail)
  generalize (w.alloc (.cells #[.int .u8 c, .int .u8 bk, .int .u8 fi, .int .u8 se] 74)) = u0 at B0 P0 ⊢
  generalize w.heap.size = pb at P0 LP  ⊢
  obtain ⟨hc0, hf0⟩ := P0.out.out
  go_wp2_with (fail)
  clear hc0 hf0
  with_reducible refine (A0.out _ (HM1.out.at HN.out B0.out)).mono ?_
  rintro q_ w' ⟨rfl, rfl⟩
  obtain ⟨hc0, hf0⟩ := P0.out.out
  go_wp2_with (fail)
  clear hc0 hf0
  with_reducible refine (A1.out _ (HM1.out.at HN.out B0.out)).mono ?_
  rintro q_ w' ⟨rfl, rfl⟩
  obtain ⟨hc0, hf0⟩ := P0.out.out
  go_wp2_with (fail)
  clear hc0 hf0
  with_reducible refine (HG.out _).mono ?_
  rintro q_ u1 ⟨rfl, hb⟩
  have B1 := Lib.hid (vian HN.out B0.out hb)
  have P1 := Lib.hid (P0.out.below hb)
  clear hb B0 P0
  obtain ⟨hc0, hf0⟩ := P1.out.out
  go_wp2_with (fail)
  clear hc0 hf0
  with_reducible refine (A3.out _ (HM1.out.at HN.out B1.out)).mono ?_
  rintro q_ w' ⟨rfl, rfl⟩
  obtain ⟨hc0, hf0⟩ := P1.out.out
  go_wp2_with (fail)
  clear hc0 hf0
  with_reducible refine (q6.out _).mono ?_
  rintro q_ w' ⟨rfl, rfl⟩
  obtain ⟨hc0, hf0⟩ := P1.out.out
  go_wp2_with (fail)
  clear hc0 hf0
  with_reducible refine (q5.out _).mono ?_
  rintro q_ w' ⟨rfl, rfl⟩
  obtain ⟨hc0, hf0⟩ := P1.out.out
  go_wp2_with (fail)
  clear hc0 hf0
  with_reducible refine (A2.out _ (HM1.out.at HN.out B1.out)).mono ?_
  rintro q_ w' ⟨rfl, rfl⟩
  obtain ⟨hc0, hf0⟩ := P1.out.out
  go_wp2_with (fail)
  clear hc0 hf0
  with_reducible refine (HG.out _).mono ?_
  rintro q_ u2 ⟨rfl, hb⟩
  have B2 := Lib.hid (vian HN.out B1.out hb)
  have P2 := Lib.hid (P1.out.below hb)
  clear hb B1 P1
  obtain ⟨hc0, hf0⟩ := P2.out.out
  go_wp2_with (fail)
  clear hc0 hf0
  with_reducible refine (DC.out _ (HM0.out.at HN.out B2.out)).mono ?_
  rintro q_ w' ⟨rfl, rfl⟩
  go_wp2_with (fail)
  all_goals exact bodyPost_ret (v := .tuple #[.int .u8 D, .bool (decide (D ≠ 0))]) (by simp [results, Try.results65, go_sem] <;> exact ed) rfl ⟨rfl, B2.out⟩
set_option maxHeartbeats 4000000 in
theorem dotr_1100 (c bk fi se : Int) (c0 : 0 ≤ c) (c1 : c < 256) (bk0 : 0 ≤ bk) (bk1 : bk < 256) (fi0 : 0 ≤ fi) (fi1 : fi < 256) (se0 : 0 ≤ se) (se1 : se < 256) (vr ov : Value) (V O : M) (n : Nat) (hn : n < 40) (x line : Int) (x0 : -1000 ≤ x) (x1 : x ≤ 1000) (line0 : -1000 ≤ line) (line1 : line ≤ 1000) (hb : O (4 * n) - 16 ≤ line ∧ line < O (4 * n) - 16 + hgt c ∧ O (4 * n + 1) - 8 ≤ x ∧ x < O (4 * n + 1)) (h5 : bit (O (4 * n + 3)) 5 = 1) (h6 : bit (O (4 * n + 3)) 6 = 1) (h2 : bit c 2 = 0) (hu : ¬ 7 < (7 - (line - (O (4 * n) - 16)))) (w : World) (hM0 : Mem w vr V) (hM1 : Mem w ov O) : Calls Try.prog 65 #[.agg #[.int .u8 c, .int .u8 bk, .int .u8 fi, .int .u8 se], vr, ov, .int .i64 (n : Int), .int .i64 x, .int .i64 line] w fun q_ w' => q_ = .returned (.tuple #[.int .u8 (colV V O c n x line), .bool (decide (colV V O c n x line ≠ 0))]) ∧ Below w.heap.size w w' := by
  suffices hall : ∀ (n_ : Nat) (W0 : World), n_ ≤ W0.heap.size → Below n_ W0 w → MemB n_ W0 vr V → MemB n_ W0 ov O → Calls Try.prog 65 #[.agg #[.int .u8 c, .int .u8 bk, .int .u8 fi, .int .u8 se], vr, ov, .int .i64 (n : Int), .int .i64 x, .int .i64 line] w fun q_ w' => q_ = .returned (.tuple #[.int .u8 (colV V O c n x line), .bool (decide (colV V O c n x line ≠ 0))]) ∧ Below n_ W0 w' from hall _ _ (Nat.le_refl _) (Below.refl _ _) hM0 hM1
  clear hM0 hM1
  intro n_ W0 hn hB hM0 hM1
  have HN := Lib.hid hn
  have BB := Lib.hid hB
  clear hn hB
  have HM0 := Lib.hid hM0
  clear hM0
  have HM1 := Lib.hid hM1
  clear hM1
  have ok := HM1.out.ok
  have A0 := Lib.hid (fun W h => oat0_c ov O n hn W h)
  have A1 := Lib.hid (fun W h => oat1_c ov O n hn W h)
  have A2 := Lib.hid (fun W h => oat2_c ov O n hn W h)
  have A3 := Lib.hid (fun W h => oat3_c ov O n hn W h)
  have n0 : (0 : Int) ≤ (n : Int) := by omega
  have n1 : (n : Int) < 40 := by omega
  have n2 : ¬ (39 : Int) < (n : Int) := by omega
  have t0 : decide ((n : Int) < 0) = false := decide_eq_false (by omega)
  have t1 : decide (39 < (n : Int)) = false := decide_eq_false (by omega)
  have t2 : decide (x < -1000) = false := decide_eq_false (by omega)
  have t3 : decide (1000 < x) = false := decide_eq_false (by omega)
  have t4 : decide (line < -1000) = false := decide_eq_false (by omega)
  have t5 : decide (1000 < line) = false := decide_eq_false (by omega)
  obtain ⟨D, hD⟩ : ∃ q_, q_ = colV V O c n x line := ⟨_, rfl⟩
  have hD2 := hD
  rw [← hD]
  unfold colV inV at hD2
  obtain ⟨ys0, ys1⟩ := ok (4 * n)
  obtain ⟨xs0, xs1⟩ := ok (4 * n + 1)
  obtain ⟨tl0, tl1⟩ := ok (4 * n + 2)
  obtain ⟨av0, av1⟩ := ok (4 * n + 3)
  clear hD ok
  generalize O (4 * n) = ys at *
  generalize O (4 * n + 1) = xs at *
  generalize O (4 * n + 2) = tl at *
  generalize O (4 * n + 3) = av at *
  have HG := Lib.hid (fun W => rheight_c c bk fi se c0 c1 bk0 bk1 fi0 fi1 se0 se1 W)
  have hh := hgt_is c
  obtain ⟨row, hrow⟩ : ∃ q_, q_ = line - (ys - 16) := ⟨_, rfl⟩
  obtain ⟨col, hcol⟩ : ∃ q_, q_ = x - (xs - 8) := ⟨_, rfl⟩
  have er : line - ys + 16 = row := by omega
  have ec : x - xs + 8 = col := by omega
  rw [← hrow, ← hcol] at hD2
  rw [← hrow] at hu
  have hgv : hgt c = 8 := by unfold hgt; rw [h2]; rfl
  rw [hgv] at HG hb
  rw [if_pos ⟨by rw [Bool.and_eq_true, decide_eq_true_eq, decide_eq_true_eq]; exact ⟨hb.1, by rw [hgv]; exact hb.2.1⟩, hb.2.2⟩, paint_ref _ _ _ _ _ _ (by unfold rowV; rw [h6, hgv]; (show 0 ≤ (8 : Int) - 1 - row; omega)) (by unfold rowV; rw [h6, hgv]; (show (8 : Int) - 1 - row < 16; omega))] at hD2
  have hrv : rowV c av row = 7 - row := by unfold rowV; rw [h6, hgv]; (show (8 : Int) - 1 - row = 7 - row; omega)
  have hcv : colmV av col = 7 - col := by unfold colmV; rw [h5]; rfl
  have htv : tileV c tl = tl := by unfold tileV; rw [h2]; rfl
  rw [hrv, hcv, htv, if_neg hu, if_neg hu] at hD2
  have d1 : decide (row < 0) = false := decide_eq_false (by omega)
  have d2 : decide ((8 : Int) ≤ row) = false := decide_eq_false (by omega)
  have d3 : decide (col < 0) = false := decide_eq_false (by omega)
  have d4 : decide (7 < col) = false := decide_eq_false (by omega)
  have r0 : 0 ≤ row := by omega
  have r1 : row < 8 := by omega
  have k0 : 0 ≤ col := by omega
  have k1 : col < 8 := by omega
  have q5 := Lib.hid (fun W => bit5_c av av0 av1 W)
  have q6 := Lib.hid (fun W => bit6_c av av0 av1 W)
  rw [h5] at q5
  rw [h6] at q6
  have ew : IntKind.u8.wrap av = av := by rw [IntKind.wrap_u8]; omega
  have td : tl.tdiv 2 = tl / 2 := Int.tdiv_eq_ediv_of_nonneg tl0
  have tu : ¬ 7 < 7 - row := hu
  have DC := Lib.hid (fun W h => rdot_c vr V (tl) (7 - col) (7 - row) (by omega) (by omega) (by omega) (by omega) W h)
  rw [Int.add_zero] at hD2
  rw [← hD2] at DC
  clear hD2 hgv hrv hcv htv h5 h6 h2 hb hrow hcol
  have ed : (D != 0) = (!decide (D = 0)) := by by_cases h : D = 0 <;> simp [h]
  go_enter Try.func65, Try.ntmps65
  have Q_ := own1 w (.cells #[.int .u8 c, .int .u8 bk, .int .u8 fi, .int .u8 se] 74)
  have B0 := Lib.hid (vian HN.out BB.out Q_)
  have P0 := Lib.hid (show Has (w.alloc (.cells #[.int .u8 c, .int .u8 bk, .int .u8 fi, .int .u8 se] 74)) w.heap.size #[.int .u8 c, .int .u8 bk, .int .u8 fi, .int .u8 se] by simpa using Has.new w #[.int .u8 c, .int .u8 bk, .int .u8 fi, .int .u8 se] 74)
  have LP := Lib.hid (show n_ ≤ w.heap.size + 0 from Nat.le_add_right_of_le (Nat.le_trans HN.out BB.out.size))
  simp only [Nat.add_zero] at LP
  clear Q_
  go_upto_region 1 with (fail)
  generalize (w.alloc (.cells #[.int .u8 c, .int .u8 bk, .int .u8 fi, .int .u8 se] 74)) = u0 at B0 P0 ⊢
  generalize w.heap.size = pb at P0 LP  ⊢
  obtain ⟨hc0, hf0⟩ := P0.out.out
  go_wp2_with (fail)
  clear hc0 hf0
  with_reducible refine (A0.out _ (HM1.out.at HN.out B0.out)).mono ?_
  rintro q_ w' ⟨rfl, rfl⟩
  obtain ⟨hc0, hf0⟩ := P0.out.out
  go_wp2_with (fail)
  clear hc0 hf0
  with_reducible refine (A1.out _ (HM1.out.at HN.out B0.out)).mono ?_
  rintro q_ w' ⟨rfl, rfl⟩
  obtain ⟨hc0, hf0⟩ := P0.out.out
  go_wp2_with (fail)
  clear hc0 hf0
  with_reducible refine (HG.out _).mono ?_
  rintro q_ u1 ⟨rfl, hb⟩
  have B1 := Lib.hid (vian HN.out B0.out hb)
  have P1 := Lib.hid (P0.out.below hb)
  clear hb B0 P0
  obtain ⟨hc0, hf0⟩ := P1.out.out
  go_wp2_with (fail)
  clear hc0 hf0
  with_reducible refine (A3.out _ (HM1.out.at HN.out B1.out)).mono ?_
  rintro q_ w' ⟨rfl, rfl⟩
  obtain ⟨hc0, hf0⟩ := P1.out.out
  go_wp2_with (fail)
  clear hc0 hf0
  with_reducible refine (q6.out _).mono ?_
  rintro q_ w' ⟨rfl, rfl⟩
  obtain ⟨hc0, hf0⟩ := P1.out.out
  go_wp2_with (fail)
  clear hc0 hf0
  with_reducible refine (HG.out _).mono ?_
  rintro q_ u2 ⟨rfl, hb⟩
  have B2 := Lib.hid (vian HN.out B1.out hb)
  have P2 := Lib.hid (P1.out.below hb)
  clear hb B1 P1
  obtain ⟨hc0, hf0⟩ := P2.out.out
  go_wp2_with (fail)
  clear hc0 hf0
  with_reducible refine (q5.out _).mono ?_
  rintro q_ w' ⟨rfl, rfl⟩
  obtain ⟨hc0, hf0⟩ := P2.out.out
  go_wp2_with (fail)
  clear hc0 hf0
  with_reducible refine (A2.out _ (HM1.out.at HN.out B2.out)).mono ?_
  rintro q_ w' ⟨rfl, rfl⟩
  obtain ⟨hc0, hf0⟩ := P2.out.out
  go_wp2_with (fail)
  clear hc0 hf0
  with_reducible refine (HG.out _).mono ?_
  rintro q_ u3 ⟨rfl, hb⟩
  have B3 := Lib.hid (vian HN.out B2.out hb)
  have P3 := Lib.hid (P2.out.below hb)
  clear hb B2 P2
  obtain ⟨hc0, hf0⟩ := P3.out.out
  go_wp2_with (fail)
  clear hc0 hf0
  with_reducible refine (DC.out _ (HM0.out.at HN.out B3.out)).mono ?_
  rintro q_ w' ⟨rfl, rfl⟩
  go_wp2_with (fail)
  all_goals exact bodyPost_ret (v := .tuple #[.int .u8 D, .bool (decide (D ≠ 0))]) (by simp [results, Try.results65, go_sem] <;> exact ed) rfl ⟨rfl, B3.out⟩
set_option maxHeartbeats 4000000 in
theorem dotr_1110 (c bk fi se : Int) (c0 : 0 ≤ c) (c1 : c < 256) (bk0 : 0 ≤ bk) (bk1 : bk < 256) (fi0 : 0 ≤ fi) (fi1 : fi < 256) (se0 : 0 ≤ se) (se1 : se < 256) (vr ov : Value) (V O : M) (n : Nat) (hn : n < 40) (x line : Int) (x0 : -1000 ≤ x) (x1 : x ≤ 1000) (line0 : -1000 ≤ line) (line1 : line ≤ 1000) (hb : O (4 * n) - 16 ≤ line ∧ line < O (4 * n) - 16 + hgt c ∧ O (4 * n + 1) - 8 ≤ x ∧ x < O (4 * n + 1)) (h5 : bit (O (4 * n + 3)) 5 = 1) (h6 : bit (O (4 * n + 3)) 6 = 1) (h2 : bit c 2 = 1) (hu : ¬ 7 < (15 - (line - (O (4 * n) - 16)))) (w : World) (hM0 : Mem w vr V) (hM1 : Mem w ov O) : Calls Try.prog 65 #[.agg #[.int .u8 c, .int .u8 bk, .int .u8 fi, .int .u8 se], vr, ov, .int .i64 (n : Int), .int .i64 x, .int .i64 line] w fun q_ w' => q_ = .returned (.tuple #[.int .u8 (colV V O c n x line), .bool (decide (colV V O c n x line ≠ 0))]) ∧ Below w.heap.size w w' := by
  suffices hall : ∀ (n_ : Nat) (W0 : World), n_ ≤ W0.heap.size → Below n_ W0 w → MemB n_ W0 vr V → MemB n_ W0 ov O → Calls Try.prog 65 #[.agg #[.int .u8 c, .int .u8 bk, .int .u8 fi, .int .u8 se], vr, ov, .int .i64 (n : Int), .int .i64 x, .int .i64 line] w fun q_ w' => q_ = .returned (.tuple #[.int .u8 (colV V O c n x line), .bool (decide (colV V O c n x line ≠ 0))]) ∧ Below n_ W0 w' from hall _ _ (Nat.le_refl _) (Below.refl _ _) hM0 hM1
  clear hM0 hM1
  intro n_ W0 hn hB hM0 hM1
  have HN := Lib.hid hn
  have BB := Lib.hid hB
  clear hn hB
  have HM0 := Lib.hid hM0
  clear hM0
  have HM1 := Lib.hid hM1
  clear hM1
  have ok := HM1.out.ok
  have A0 := Lib.hid (fun W h => oat0_c ov O n hn W h)
  have A1 := Lib.hid (fun W h => oat1_c ov O n hn W h)
  have A2 := Lib.hid (fun W h => oat2_c ov O n hn W h)
  have A3 := Lib.hid (fun W h => oat3_c ov O n hn W h)
  have n0 : (0 : Int) ≤ (n : Int) := by omega
  have n1 : (n : Int) < 40 := by omega
  have n2 : ¬ (39 : Int) < (n : Int) := by omega
  have t0 : decide ((n : Int) < 0) = false := decide_eq_false (by omega)
  have t1 : decide (39 < (n : Int)) = false := decide_eq_false (by omega)
  have t2 : decide (x < -1000) = false := decide_eq_false (by omega)
  have t3 : decide (1000 < x) = false := decide_eq_false (by omega)
  have t4 : decide (line < -1000) = false := decide_eq_false (by omega)
  have t5 : decide (1000 < line) = false := decide_eq_false (by omega)
  obtain ⟨D, hD⟩ : ∃ q_, q_ = colV V O c n x line := ⟨_, rfl⟩
  have hD2 := hD
  rw [← hD]
  unfold colV inV at hD2
  obtain ⟨ys0, ys1⟩ := ok (4 * n)
  obtain ⟨xs0, xs1⟩ := ok (4 * n + 1)
  obtain ⟨tl0, tl1⟩ := ok (4 * n + 2)
  obtain ⟨av0, av1⟩ := ok (4 * n + 3)
  clear hD ok
  generalize O (4 * n) = ys at *
  generalize O (4 * n + 1) = xs at *
  generalize O (4 * n + 2) = tl at *
  generalize O (4 * n + 3) = av at *
  have HG := Lib.hid (fun W => rheight_c c bk fi se c0 c1 bk0 bk1 fi0 fi1 se0 se1 W)
  have hh := hgt_is c
  obtain ⟨row, hrow⟩ : ∃ q_, q_ = line - (ys - 16) := ⟨_, rfl⟩
  obtain ⟨col, hcol⟩ : ∃ q_, q_ = x - (xs - 8) := ⟨_, rfl⟩
  have er : line - ys + 16 = row := by omega
  have ec : x - xs + 8 = col := by omega
  rw [← hrow, ← hcol] at hD2
  rw [← hrow] at hu
  have hgv : hgt c = 16 := by unfold hgt; rw [h2]; rfl
  rw [hgv] at HG hb
  rw [if_pos ⟨by rw [Bool.and_eq_true, decide_eq_true_eq, decide_eq_true_eq]; exact ⟨hb.1, by rw [hgv]; exact hb.2.1⟩, hb.2.2⟩, paint_ref _ _ _ _ _ _ (by unfold rowV; rw [h6, hgv]; (show 0 ≤ (16 : Int) - 1 - row; omega)) (by unfold rowV; rw [h6, hgv]; (show (16 : Int) - 1 - row < 16; omega))] at hD2
  have hrv : rowV c av row = 15 - row := by unfold rowV; rw [h6, hgv]; (show (16 : Int) - 1 - row = 15 - row; omega)
  have hcv : colmV av col = 7 - col := by unfold colmV; rw [h5]; rfl
  have htv : tileV c tl = tl / 2 * 2 := by unfold tileV; rw [h2]; rfl
  rw [hrv, hcv, htv, if_neg hu, if_neg hu] at hD2
  have d1 : decide (row < 0) = false := decide_eq_false (by omega)
  have d2 : decide ((16 : Int) ≤ row) = false := decide_eq_false (by omega)
  have d3 : decide (col < 0) = false := decide_eq_false (by omega)
  have d4 : decide (7 < col) = false := decide_eq_false (by omega)
  have r0 : 0 ≤ row := by omega
  have r1 : row < 16 := by omega
  have k0 : 0 ≤ col := by omega
  have k1 : col < 8 := by omega
  have q5 := Lib.hid (fun W => bit5_c av av0 av1 W)
  have q6 := Lib.hid (fun W => bit6_c av av0 av1 W)
  rw [h5] at q5
  rw [h6] at q6
  have ew : IntKind.u8.wrap av = av := by rw [IntKind.wrap_u8]; omega
  have td : tl.tdiv 2 = tl / 2 := Int.tdiv_eq_ediv_of_nonneg tl0
  have tu : ¬ 7 < 15 - row := hu
  have DC := Lib.hid (fun W h => rdot_c vr V (tl / 2 * 2) (7 - col) (15 - row) (by omega) (by omega) (by omega) (by omega) W h)
  rw [Int.add_zero] at hD2
  rw [← hD2] at DC
  clear hD2 hgv hrv hcv htv h5 h6 h2 hb hrow hcol
  have ed : (D != 0) = (!decide (D = 0)) := by by_cases h : D = 0 <;> simp [h]
  go_enter Try.func65, Try.ntmps65
  have Q_ := own1 w (.cells #[.int .u8 c, .int .u8 bk, .int .u8 fi, .int .u8 se] 74)
  have B0 := Lib.hid (vian HN.out BB.out Q_)
  have P0 := Lib.hid (show Has (w.alloc (.cells #[.int .u8 c, .int .u8 bk, .int .u8 fi, .int .u8 se] 74)) w.heap.size #[.int .u8 c, .int .u8 bk, .int .u8 fi, .int .u8 se] by simpa using Has.new w #[.int .u8 c, .int .u8 bk, .int .u8 fi, .int .u8 se] 74)
  have LP := Lib.hid (show n_ ≤ w.heap.size + 0 from Nat.le_add_right_of_le (Nat.le_trans HN.out BB.out.size))
  simp only [Nat.add_zero] at LP
  clear Q_
  go_upto_region 1 with (fail)
  generalize (w.alloc (.cells #[.int .u8 c, .int .u8 bk, .int .u8 fi, .int .u8 se] 74)) = u0 at B0 P0 ⊢
  generalize w.heap.size = pb at P0 LP  ⊢
  obtain ⟨hc0, hf0⟩ := P0.out.out
  go_wp2_with (fail)
  clear hc0 hf0
  with_reducible refine (A0.out _ (HM1.out.at HN.out B0.out)).mono ?_
  rintro q_ w' ⟨rfl, rfl⟩
  obtain ⟨hc0, hf0⟩ := P0.out.out
  go_wp2_with (fail)
  clear hc0 hf0
  with_reducible refine (A1.out _ (HM1.out.at HN.out B0.out)).mono ?_
  rintro q_ w' ⟨rfl, rfl⟩
  obtain ⟨hc0, hf0⟩ := P0.out.out
  go_wp2_with (fail)
  clear hc0 hf0
  with_reducible refine (HG.out _).mono ?_
  rintro q_ u1 ⟨rfl, hb⟩
  have B1 := Lib.hid (vian HN.out B0.out hb)
  have P1 := Lib.hid (P0.out.below hb)
  clear hb B0 P0
  obtain ⟨hc0, hf0⟩ := P1.out.out
  go_wp2_with (fail)
  clear hc0 hf0
  with_reducible refine (A3.out _ (HM1.out.at HN.out B1.out)).mono ?_
  rintro q_ w' ⟨rfl, rfl⟩
  obtain ⟨hc0, hf0⟩ := P1.out.out
  go_wp2_with (fail)
  clear hc0 hf0
  with_reducible refine (q6.out _).mono ?_
  rintro q_ w' ⟨rfl, rfl⟩
  obtain ⟨hc0, hf0⟩ := P1.out.out
  go_wp2_with (fail)
  clear hc0 hf0
  with_reducible refine (HG.out _).mono ?_
  rintro q_ u2 ⟨rfl, hb⟩
  have B2 := Lib.hid (vian HN.out B1.out hb)
  have P2 := Lib.hid (P1.out.below hb)
  clear hb B1 P1
  obtain ⟨hc0, hf0⟩ := P2.out.out
  go_wp2_with (fail)
  clear hc0 hf0
  with_reducible refine (q5.out _).mono ?_
  rintro q_ w' ⟨rfl, rfl⟩
  obtain ⟨hc0, hf0⟩ := P2.out.out
  go_wp2_with (fail)
  clear hc0 hf0
  with_reducible refine (A2.out _ (HM1.out.at HN.out B2.out)).mono ?_
  rintro q_ w' ⟨rfl, rfl⟩
  obtain ⟨hc0, hf0⟩ := P2.out.out
  go_wp2_with (fail)
  clear hc0 hf0
  with_reducible refine (HG.out _).mono ?_
  rintro q_ u3 ⟨rfl, hb⟩
  have B3 := Lib.hid (vian HN.out B2.out hb)
  have P3 := Lib.hid (P2.out.below hb)
  clear hb B2 P2
  obtain ⟨hc0, hf0⟩ := P3.out.out
  go_wp2_with (fail)
  clear hc0 hf0
  with_reducible refine (DC.out _ (HM0.out.at HN.out B3.out)).mono ?_
  rintro q_ w' ⟨rfl, rfl⟩
  go_wp2_with (fail)
  all_goals exact bodyPost_ret (v := .tuple #[.int .u8 D, .bool (decide (D ≠ 0))]) (by simp [results, Try.results65, go_sem] <;> exact ed) rfl ⟨rfl, B3.out⟩
set_option maxHeartbeats 4000000 in
theorem dotr_1111 (c bk fi se : Int) (c0 : 0 ≤ c) (c1 : c < 256) (bk0 : 0 ≤ bk) (bk1 : bk < 256) (fi0 : 0 ≤ fi) (fi1 : fi < 256) (se0 : 0 ≤ se) (se1 : se < 256) (vr ov : Value) (V O : M) (n : Nat) (hn : n < 40) (x line : Int) (x0 : -1000 ≤ x) (x1 : x ≤ 1000) (line0 : -1000 ≤ line) (line1 : line ≤ 1000) (hb : O (4 * n) - 16 ≤ line ∧ line < O (4 * n) - 16 + hgt c ∧ O (4 * n + 1) - 8 ≤ x ∧ x < O (4 * n + 1)) (h5 : bit (O (4 * n + 3)) 5 = 1) (h6 : bit (O (4 * n + 3)) 6 = 1) (h2 : bit c 2 = 1) (hu :  7 < (15 - (line - (O (4 * n) - 16)))) (w : World) (hM0 : Mem w vr V) (hM1 : Mem w ov O) : Calls Try.prog 65 #[.agg #[.int .u8 c, .int .u8 bk, .int .u8 fi, .int .u8 se], vr, ov, .int .i64 (n : Int), .int .i64 x, .int .i64 line] w fun q_ w' => q_ = .returned (.tuple #[.int .u8 (colV V O c n x line), .bool (decide (colV V O c n x line ≠ 0))]) ∧ Below w.heap.size w w' := by
  suffices hall : ∀ (n_ : Nat) (W0 : World), n_ ≤ W0.heap.size → Below n_ W0 w → MemB n_ W0 vr V → MemB n_ W0 ov O → Calls Try.prog 65 #[.agg #[.int .u8 c, .int .u8 bk, .int .u8 fi, .int .u8 se], vr, ov, .int .i64 (n : Int), .int .i64 x, .int .i64 line] w fun q_ w' => q_ = .returned (.tuple #[.int .u8 (colV V O c n x line), .bool (decide (colV V O c n x line ≠ 0))]) ∧ Below n_ W0 w' from hall _ _ (Nat.le_refl _) (Below.refl _ _) hM0 hM1
  clear hM0 hM1
  intro n_ W0 hn hB hM0 hM1
  have HN := Lib.hid hn
  have BB := Lib.hid hB
  clear hn hB
  have HM0 := Lib.hid hM0
  clear hM0
  have HM1 := Lib.hid hM1
  clear hM1
  have ok := HM1.out.ok
  have A0 := Lib.hid (fun W h => oat0_c ov O n hn W h)
  have A1 := Lib.hid (fun W h => oat1_c ov O n hn W h)
  have A2 := Lib.hid (fun W h => oat2_c ov O n hn W h)
  have A3 := Lib.hid (fun W h => oat3_c ov O n hn W h)
  have n0 : (0 : Int) ≤ (n : Int) := by omega
  have n1 : (n : Int) < 40 := by omega
  have n2 : ¬ (39 : Int) < (n : Int) := by omega
  have t0 : decide ((n : Int) < 0) = false := decide_eq_false (by omega)
  have t1 : decide (39 < (n : Int)) = false := decide_eq_false (by omega)
  have t2 : decide (x < -1000) = false := decide_eq_false (by omega)
  have t3 : decide (1000 < x) = false := decide_eq_false (by omega)
  have t4 : decide (line < -1000) = false := decide_eq_false (by omega)
  have t5 : decide (1000 < line) = false := decide_eq_false (by omega)
  obtain ⟨D, hD⟩ : ∃ q_, q_ = colV V O c n x line := ⟨_, rfl⟩
  have hD2 := hD
  rw [← hD]
  unfold colV inV at hD2
  obtain ⟨ys0, ys1⟩ := ok (4 * n)
  obtain ⟨xs0, xs1⟩ := ok (4 * n + 1)
  obtain ⟨tl0, tl1⟩ := ok (4 * n + 2)
  obtain ⟨av0, av1⟩ := ok (4 * n + 3)
  clear hD ok
  generalize O (4 * n) = ys at *
  generalize O (4 * n + 1) = xs at *
  generalize O (4 * n + 2) = tl at *
  generalize O (4 * n + 3) = av at *
  have HG := Lib.hid (fun W => rheight_c c bk fi se c0 c1 bk0 bk1 fi0 fi1 se0 se1 W)
  have hh := hgt_is c
  obtain ⟨row, hrow⟩ : ∃ q_, q_ = line - (ys - 16) := ⟨_, rfl⟩
  obtain ⟨col, hcol⟩ : ∃ q_, q_ = x - (xs - 8) := ⟨_, rfl⟩
  have er : line - ys + 16 = row := by omega
  have ec : x - xs + 8 = col := by omega
  rw [← hrow, ← hcol] at hD2
  rw [← hrow] at hu
  have hgv : hgt c = 16 := by unfold hgt; rw [h2]; rfl
  rw [hgv] at HG hb
  rw [if_pos ⟨by rw [Bool.and_eq_true, decide_eq_true_eq, decide_eq_true_eq]; exact ⟨hb.1, by rw [hgv]; exact hb.2.1⟩, hb.2.2⟩, paint_ref _ _ _ _ _ _ (by unfold rowV; rw [h6, hgv]; (show 0 ≤ (16 : Int) - 1 - row; omega)) (by unfold rowV; rw [h6, hgv]; (show (16 : Int) - 1 - row < 16; omega))] at hD2
  have hrv : rowV c av row = 15 - row := by unfold rowV; rw [h6, hgv]; (show (16 : Int) - 1 - row = 15 - row; omega)
  have hcv : colmV av col = 7 - col := by unfold colmV; rw [h5]; rfl
  have htv : tileV c tl = tl / 2 * 2 := by unfold tileV; rw [h2]; rfl
  rw [hrv, hcv, htv, if_pos hu, if_pos hu] at hD2
  have d1 : decide (row < 0) = false := decide_eq_false (by omega)
  have d2 : decide ((16 : Int) ≤ row) = false := decide_eq_false (by omega)
  have d3 : decide (col < 0) = false := decide_eq_false (by omega)
  have d4 : decide (7 < col) = false := decide_eq_false (by omega)
  have r0 : 0 ≤ row := by omega
  have r1 : row < 16 := by omega
  have k0 : 0 ≤ col := by omega
  have k1 : col < 8 := by omega
  have q5 := Lib.hid (fun W => bit5_c av av0 av1 W)
  have q6 := Lib.hid (fun W => bit6_c av av0 av1 W)
  rw [h5] at q5
  rw [h6] at q6
  have ew : IntKind.u8.wrap av = av := by rw [IntKind.wrap_u8]; omega
  have td : tl.tdiv 2 = tl / 2 := Int.tdiv_eq_ediv_of_nonneg tl0
  have tu : 7 < 15 - row := hu
  have DC := Lib.hid (fun W h => rdot_c vr V (tl / 2 * 2 + 1) (7 - col) (15 - row - 8) (by omega) (by omega) (by omega) (by omega) W h)
  skip
  rw [← hD2] at DC
  clear hD2 hgv hrv hcv htv h5 h6 h2 hb hrow hcol
  have ed : (D != 0) = (!decide (D = 0)) := by by_cases h : D = 0 <;> simp [h]
  go_enter Try.func65, Try.ntmps65
  have Q_ := own1 w (.cells #[.int .u8 c, .int .u8 bk, .int .u8 fi, .int .u8 se] 74)
  have B0 := Lib.hid (vian HN.out BB.out Q_)
  have P0 := Lib.hid (show Has (w.alloc (.cells #[.int .u8 c, .int .u8 bk, .int .u8 fi, .int .u8 se] 74)) w.heap.size #[.int .u8 c, .int .u8 bk, .int .u8 fi, .int .u8 se] by simpa using Has.new w #[.int .u8 c, .int .u8 bk, .int .u8 fi, .int .u8 se] 74)
  have LP := Lib.hid (show n_ ≤ w.heap.size + 0 from Nat.le_add_right_of_le (Nat.le_trans HN.out BB.out.size))
  simp only [Nat.add_zero] at LP
  clear Q_
  go_upto_region 1 with (fail)
  generalize (w.alloc (.cells #[.int .u8 c, .int .u8 bk, .int .u8 fi, .int .u8 se] 74)) = u0 at B0 P0 ⊢
  generalize w.heap.size = pb at P0 LP  ⊢
  obtain ⟨hc0, hf0⟩ := P0.out.out
  go_wp2_with (fail)
  clear hc0 hf0
  with_reducible refine (A0.out _ (HM1.out.at HN.out B0.out)).mono ?_
  rintro q_ w' ⟨rfl, rfl⟩
  obtain ⟨hc0, hf0⟩ := P0.out.out
  go_wp2_with (fail)
  clear hc0 hf0
  with_reducible refine (A1.out _ (HM1.out.at HN.out B0.out)).mono ?_
  rintro q_ w' ⟨rfl, rfl⟩
  obtain ⟨hc0, hf0⟩ := P0.out.out
  go_wp2_with (fail)
  clear hc0 hf0
  with_reducible refine (HG.out _).mono ?_
  rintro q_ u1 ⟨rfl, hb⟩
  have B1 := Lib.hid (vian HN.out B0.out hb)
  have P1 := Lib.hid (P0.out.below hb)
  clear hb B0 P0
  obtain ⟨hc0, hf0⟩ := P1.out.out
  go_wp2_with (fail)
  clear hc0 hf0
  with_reducible refine (A3.out _ (HM1.out.at HN.out B1.out)).mono ?_
  rintro q_ w' ⟨rfl, rfl⟩
  obtain ⟨hc0, hf0⟩ := P1.out.out
  go_wp2_with (fail)
  clear hc0 hf0
  with_reducible refine (q6.out _).mono ?_
  rintro q_ w' ⟨rfl, rfl⟩
  obtain ⟨hc0, hf0⟩ := P1.out.out
  go_wp2_with (fail)
  clear hc0 hf0
  with_reducible refine (HG.out _).mono ?_
  rintro q_ u2 ⟨rfl, hb⟩
  have B2 := Lib.hid (vian HN.out B1.out hb)
  have P2 := Lib.hid (P1.out.below hb)
  clear hb B1 P1
  obtain ⟨hc0, hf0⟩ := P2.out.out
  go_wp2_with (fail)
  clear hc0 hf0
  with_reducible refine (q5.out _).mono ?_
  rintro q_ w' ⟨rfl, rfl⟩
  obtain ⟨hc0, hf0⟩ := P2.out.out
  go_wp2_with (fail)
  clear hc0 hf0
  with_reducible refine (A2.out _ (HM1.out.at HN.out B2.out)).mono ?_
  rintro q_ w' ⟨rfl, rfl⟩
  obtain ⟨hc0, hf0⟩ := P2.out.out
  go_wp2_with (fail)
  clear hc0 hf0
  with_reducible refine (HG.out _).mono ?_
  rintro q_ u3 ⟨rfl, hb⟩
  have B3 := Lib.hid (vian HN.out B2.out hb)
  have P3 := Lib.hid (P2.out.below hb)
  clear hb B2 P2
  obtain ⟨hc0, hf0⟩ := P3.out.out
  go_wp2_with (fail)
  clear hc0 hf0
  with_reducible refine (DC.out _ (HM0.out.at HN.out B3.out)).mono ?_
  rintro q_ w' ⟨rfl, rfl⟩
  go_wp2_with (fail)
  all_goals exact bodyPost_ret (v := .tuple #[.int .u8 D, .bool (decide (D ≠ 0))]) (by simp [results, Try.results65, go_sem] <;> exact ed) rfl ⟨rfl, B3.out⟩
end Go.Proofs.Ytpfbodmadmneiaa
