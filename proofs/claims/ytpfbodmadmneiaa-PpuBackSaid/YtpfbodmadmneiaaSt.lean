/-
 A sprite's colour at a place of the screen, as the program tells it: for every memory of at most 8192 bytes, every number and place.
-/
import Derived.Test.YtpfbodmadmneiaaTz
import Derived.Test.YtpfbodmadmneiaaSr
import Derived.Deep.Cut
import Derived.BigQuiet
import Derived.WalkSmall
namespace Go.Proofs.Ytpfbodmadmneiaa
open Go.ChangeShapes Go.WideShapes Go.ChangeAt Go.RowKit
set_option linter.unusedVariables false
set_option linter.unusedSimpArgs false
set_option maxRecDepth 100000
set_option maxHeartbeats 2000000 in
theorem dotp_out (c bk fi se : Int) (c0 : 0 ≤ c) (c1 : c < 256) (bk0 : 0 ≤ bk) (bk1 : bk < 256) (fi0 : 0 ≤ fi) (fi1 : fi < 256) (se0 : 0 ≤ se) (se1 : se < 256) (vr ov : Value) (V O : M) (n x line : Int) (n0 : -9223372036854775808 ≤ n) (n1 : n ≤ 9223372036854775807) (x0 : -9223372036854775808 ≤ x) (x1 : x ≤ 9223372036854775807) (line0 : -9223372036854775808 ≤ line) (line1 : line ≤ 9223372036854775807) (h : ¬ (0 ≤ n ∧ n < 40)) (w : World) : Calls Try.prog 83 #[.agg #[.int .u8 c, .int .u8 bk, .int .u8 fi, .int .u8 se], vr, ov, .int .i64 n, .int .i64 x, .int .i64 line] w fun q_ w' => q_ = .returned (.tuple #[.int .u8 0, .bool false]) ∧ Below w.heap.size w w' := by
 suffices hall : ∀ (n_ : Nat) (W0 : World), n_ ≤ W0.heap.size → Below n_ W0 w → Calls Try.prog 83 #[.agg #[.int .u8 c, .int .u8 bk, .int .u8 fi, .int .u8 se], vr, ov, .int .i64 n, .int .i64 x, .int .i64 line] w fun q_ w' => q_ = .returned (.tuple #[.int .u8 0, .bool false]) ∧ Below n_ W0 w' from hall _ _ (Nat.le_refl _) (Below.refl _ _)
 intro n_ W0 hn hB
 have HN := Lib.hid hn
 have BB := Lib.hid hB
 clear hn hB
 by_cases h1 : n < 0
 ·skip
  have d1 : decide (n < 0) = true := decide_eq_true h1
  go_enter Try.func83, Try.ntmps83
  have Q_ := own1 w (.cells #[.int .u8 c, .int .u8 bk, .int .u8 fi, .int .u8 se] 81)
  have B0 := Lib.hid (vian HN.out BB.out Q_)
  have P0 := Lib.hid (show Has (w.alloc (.cells #[.int .u8 c, .int .u8 bk, .int .u8 fi, .int .u8 se] 81)) w.heap.size #[.int .u8 c, .int .u8 bk, .int .u8 fi, .int .u8 se] by simpa using Has.new w #[.int .u8 c, .int .u8 bk, .int .u8 fi, .int .u8 se] 81)
  have LP := Lib.hid (show n_ ≤ w.heap.size + 0 from Nat.le_add_right_of_le (Nat.le_trans HN.out BB.out.size))
  simp only [Nat.add_zero] at LP
  clear Q_
  go_upto_region 1 with (fail)
  generalize (w.alloc (.cells #[.int .u8 c, .int .u8 bk, .int .u8 fi, .int .u8 se] 81)) = u0 at B0 P0 ⊢
  generalize w.heap.size = pb at P0 LP  ⊢
  obtain ⟨hc0, hf0⟩ := P0.out.out
  go_wp2_with (fail)
  clear hc0 hf0
  all_goals exact bodyPost_ret (v := .tuple #[.int .u8 0, .bool false]) (by simp [results, Try.results83, go_sem]) rfl ⟨rfl, B0.out⟩
 ·skip
  have d1 : decide (n < 0) = false := decide_eq_false h1
  have h2 : 40 ≤ n := by omega
  have d2 : decide (40 ≤ n) = true := decide_eq_true h2
  go_enter Try.func83, Try.ntmps83
  have Q_ := own1 w (.cells #[.int .u8 c, .int .u8 bk, .int .u8 fi, .int .u8 se] 81)
  have B0 := Lib.hid (vian HN.out BB.out Q_)
  have P0 := Lib.hid (show Has (w.alloc (.cells #[.int .u8 c, .int .u8 bk, .int .u8 fi, .int .u8 se] 81)) w.heap.size #[.int .u8 c, .int .u8 bk, .int .u8 fi, .int .u8 se] by simpa using Has.new w #[.int .u8 c, .int .u8 bk, .int .u8 fi, .int .u8 se] 81)
  have LP := Lib.hid (show n_ ≤ w.heap.size + 0 from Nat.le_add_right_of_le (Nat.le_trans HN.out BB.out.size))
  simp only [Nat.add_zero] at LP
  clear Q_
  go_upto_region 1 with (fail)
  generalize (w.alloc (.cells #[.int .u8 c, .int .u8 bk, .int .u8 fi, .int .u8 se] 81)) = u0 at B0 P0 ⊢
  generalize w.heap.size = pb at P0 LP  ⊢
  obtain ⟨hc0, hf0⟩ := P0.out.out
  go_wp2_with (fail)
  clear hc0 hf0
  all_goals exact bodyPost_ret (v := .tuple #[.int .u8 0, .bool false]) (by simp [results, Try.results83, go_sem]) rfl ⟨rfl, B0.out⟩
set_option maxHeartbeats 8000000 in
theorem dotp_in (c bk fi se : Int) (c0 : 0 ≤ c) (c1 : c < 256) (bk0 : 0 ≤ bk) (bk1 : bk < 256) (fi0 : 0 ≤ fi) (fi1 : fi < 256) (se0 : 0 ≤ se) (se1 : se < 256) (vr ov : Value) (V O : M) (n : Nat) (hn : n < 40) (x line : Int) (x0 : -9223372036854775808 ≤ x) (x1 : x ≤ 9223372036854775807) (line0 : -9223372036854775808 ≤ line) (line1 : line ≤ 9223372036854775807) (w : World) (hM0 : Mem w vr V) (hM1 : Mem w ov O) : Calls Try.prog 83 #[.agg #[.int .u8 c, .int .u8 bk, .int .u8 fi, .int .u8 se], vr, ov, .int .i64 (n : Int), .int .i64 x, .int .i64 line] w fun q_ w' => q_ = .returned (.tuple #[.int .u8 (colV V O c n x line), .bool (decide (colV V O c n x line ≠ 0))]) ∧ Below w.heap.size w w' := by
 suffices hall : ∀ (n_ : Nat) (W0 : World), n_ ≤ W0.heap.size → Below n_ W0 w → MemB n_ W0 vr V → MemB n_ W0 ov O → Calls Try.prog 83 #[.agg #[.int .u8 c, .int .u8 bk, .int .u8 fi, .int .u8 se], vr, ov, .int .i64 (n : Int), .int .i64 x, .int .i64 line] w fun q_ w' => q_ = .returned (.tuple #[.int .u8 (colV V O c n x line), .bool (decide (colV V O c n x line ≠ 0))]) ∧ Below n_ W0 w' from hall _ _ (Nat.le_refl _) (Below.refl _ _) hM0 hM1
 clear hM0 hM1
 intro n_ W0 hn hB hM0 hM1
 have HN := Lib.hid hn
 have BB := Lib.hid hB
 clear hn hB
 have HM0 := Lib.hid hM0
 clear hM0
 have HM1 := Lib.hid hM1
 clear hM1
 have ok := HM1.out.ok
 have SP := Lib.hid (fun W h => spr_c ov O n hn W h)
 have n0 : (0 : Int) ≤ (n : Int) := by omega
 have n1 : (n : Int) < 40 := by omega
 have d1 : decide ((n : Int) < 0) = false := decide_eq_false (by omega)
 have d2 : decide (40 ≤ (n : Int)) = false := decide_eq_false (by omega)
 obtain ⟨D, hD⟩ : ∃ q_, q_ = colV V O c n x line := ⟨_, rfl⟩
 have hD2 := hD
 rw [← hD]
 unfold colV inV at hD2
 obtain ⟨ys0, ys1⟩ := ok (4 * n)
 obtain ⟨xs0, xs1⟩ := ok (4 * n + 1)
 obtain ⟨tl0, tl1⟩ := ok (4 * n + 2)
 obtain ⟨av0, av1⟩ := ok (4 * n + 3)
 clear hD ok
 generalize O (4 * n) = ys at *
 generalize O (4 * n + 1) = xs at *
 generalize O (4 * n + 2) = tl at *
 generalize O (4 * n + 3) = av at *
 have IL := Lib.hid (fun W => inl_c c bk fi se c0 c1 bk0 bk1 fi0 fi1 se0 se1 ys xs tl av ys0 ys1 xs0 xs1 tl0 tl1 av0 av1 line line0 line1 W)
 have LF := Lib.hid (fun W => left_c ys xs tl av ys0 ys1 xs0 xs1 tl0 tl1 av0 av1 W)
 have TP := Lib.hid (fun W => top_c ys xs tl av ys0 ys1 xs0 xs1 tl0 tl1 av0 av1 W)
 have CO := Lib.hid (fun (k r : Int) (k0 : 0 ≤ k) (k1 : k < 8) (r0 : 0 ≤ r) (r1 : r < hgt c) W h => colour_c c bk fi se c0 c1 bk0 bk1 fi0 fi1 se0 se1 ys xs tl av ys0 ys1 xs0 xs1 tl0 tl1 av0 av1 vr V k r k0 k1 r0 r1 W h)
 obtain ⟨z, hz⟩ : ∃ q_, q_ = (decide (ys - 16 ≤ line) && decide (line < ys - 16 + hgt c)) := ⟨_, rfl⟩
 rw [← hz] at IL hD2
 cases z
 ·skip
  rw [if_neg (by simp)] at hD2
  subst hD2
  clear hz
  go_enter Try.func83, Try.ntmps83
  have Q_ := own1 w (.cells #[.int .u8 c, .int .u8 bk, .int .u8 fi, .int .u8 se] 81)
  have B0 := Lib.hid (vian HN.out BB.out Q_)
  have P0 := Lib.hid (show Has (w.alloc (.cells #[.int .u8 c, .int .u8 bk, .int .u8 fi, .int .u8 se] 81)) w.heap.size #[.int .u8 c, .int .u8 bk, .int .u8 fi, .int .u8 se] by simpa using Has.new w #[.int .u8 c, .int .u8 bk, .int .u8 fi, .int .u8 se] 81)
  have LP := Lib.hid (show n_ ≤ w.heap.size + 0 from Nat.le_add_right_of_le (Nat.le_trans HN.out BB.out.size))
  simp only [Nat.add_zero] at LP
  clear Q_
  go_upto_region 1 with (fail)
  generalize (w.alloc (.cells #[.int .u8 c, .int .u8 bk, .int .u8 fi, .int .u8 se] 81)) = u0 at B0 P0 ⊢
  generalize w.heap.size = pb at P0 LP  ⊢
  obtain ⟨hc0, hf0⟩ := P0.out.out
  go_wp2_with (fail)
  clear hc0 hf0
  with_reducible refine (SP.out _ (HM1.out.at HN.out B0.out)).mono ?_
  rintro q_ u1 ⟨rfl, hb⟩
  have B1 := Lib.hid (vian HN.out B0.out hb)
  have P1 := Lib.hid (P0.out.below hb)
  clear hb B0 P0
  go_wp2_with (refine store_g r43 (Has.new u1 #[.int .u8 0, .int .u8 0, .int .u8 0, .int .u8 0] 105) rfl #[.int .u8 ys, .int .u8 xs, .int .u8 tl, .int .u8 av] rfl (four_one _ _ _ _) rfl _ _ rfl rfl rfl ?_)
  intro u2 hP hk
  have B2 := Lib.hid (keep_new HN.out B1.out _ hk)
  have NPS := Lib.hid (Nat.ne_of_lt P1.out.1)
  have P2 := Lib.hid (hk.has NPS.out (P1.out.below (own1 _ _)))
  have S2 := Lib.hid hP
  have LS := Lib.hid (Nat.le_trans HN.out B1.out.size)
  generalize u1.heap.size = sb at S2 LS NPS ⊢
  clear hk hP B1 P1
  try simp only [Act.put, qqA, qqB, qqC]
  obtain ⟨hc0, hf0⟩ := P2.out.out
  obtain ⟨hc1, hf1⟩ := S2.out.out
  go_wp2_with (fail)
  clear hc0 hf0 hc1 hf1
  with_reducible refine (IL.out _).mono ?_
  rintro q_ u3 ⟨rfl, hb⟩
  have B3 := Lib.hid (vian HN.out B2.out hb)
  have P3 := Lib.hid (P2.out.below hb)
  have S3 := Lib.hid (S2.out.below hb)
  clear hb B2 P2 S2
  obtain ⟨hc0, hf0⟩ := P3.out.out
  obtain ⟨hc1, hf1⟩ := S3.out.out
  go_wp2_with (fail)
  clear hc0 hf0 hc1 hf1
  all_goals exact bodyPost_ret (v := .tuple #[.int .u8 0, .bool false]) (by simp [results, Try.results83, go_sem]) rfl ⟨rfl, B3.out⟩
 ·skip
  have hz2 := hz.symm
  rw [Bool.and_eq_true, decide_eq_true_eq, decide_eq_true_eq] at hz2
  clear hz
  by_cases h1 : x < xs - 8
  ·skip
   rw [if_neg (by omega)] at hD2
   subst hD2
   clear hz2
   have d3 : decide (x < xs - 8) = true := decide_eq_true h1
   go_enter Try.func83, Try.ntmps83
   have Q_ := own1 w (.cells #[.int .u8 c, .int .u8 bk, .int .u8 fi, .int .u8 se] 81)
   have B0 := Lib.hid (vian HN.out BB.out Q_)
   have P0 := Lib.hid (show Has (w.alloc (.cells #[.int .u8 c, .int .u8 bk, .int .u8 fi, .int .u8 se] 81)) w.heap.size #[.int .u8 c, .int .u8 bk, .int .u8 fi, .int .u8 se] by simpa using Has.new w #[.int .u8 c, .int .u8 bk, .int .u8 fi, .int .u8 se] 81)
   have LP := Lib.hid (show n_ ≤ w.heap.size + 0 from Nat.le_add_right_of_le (Nat.le_trans HN.out BB.out.size))
   simp only [Nat.add_zero] at LP
   clear Q_
   go_upto_region 1 with (fail)
   generalize (w.alloc (.cells #[.int .u8 c, .int .u8 bk, .int .u8 fi, .int .u8 se] 81)) = u0 at B0 P0 ⊢
   generalize w.heap.size = pb at P0 LP  ⊢
   obtain ⟨hc0, hf0⟩ := P0.out.out
   go_wp2_with (fail)
   clear hc0 hf0
   with_reducible refine (SP.out _ (HM1.out.at HN.out B0.out)).mono ?_
   rintro q_ u1 ⟨rfl, hb⟩
   have B1 := Lib.hid (vian HN.out B0.out hb)
   have P1 := Lib.hid (P0.out.below hb)
   clear hb B0 P0
   go_wp2_with (refine store_g r43 (Has.new u1 #[.int .u8 0, .int .u8 0, .int .u8 0, .int .u8 0] 105) rfl #[.int .u8 ys, .int .u8 xs, .int .u8 tl, .int .u8 av] rfl (four_one _ _ _ _) rfl _ _ rfl rfl rfl ?_)
   intro u2 hP hk
   have B2 := Lib.hid (keep_new HN.out B1.out _ hk)
   have NPS := Lib.hid (Nat.ne_of_lt P1.out.1)
   have P2 := Lib.hid (hk.has NPS.out (P1.out.below (own1 _ _)))
   have S2 := Lib.hid hP
   have LS := Lib.hid (Nat.le_trans HN.out B1.out.size)
   generalize u1.heap.size = sb at S2 LS NPS ⊢
   clear hk hP B1 P1
   try simp only [Act.put, qqA, qqB, qqC]
   obtain ⟨hc0, hf0⟩ := P2.out.out
   obtain ⟨hc1, hf1⟩ := S2.out.out
   go_wp2_with (fail)
   clear hc0 hf0 hc1 hf1
   with_reducible refine (IL.out _).mono ?_
   rintro q_ u3 ⟨rfl, hb⟩
   have B3 := Lib.hid (vian HN.out B2.out hb)
   have P3 := Lib.hid (P2.out.below hb)
   have S3 := Lib.hid (S2.out.below hb)
   clear hb B2 P2 S2
   obtain ⟨hc0, hf0⟩ := P3.out.out
   obtain ⟨hc1, hf1⟩ := S3.out.out
   go_wp2_with (fail)
   clear hc0 hf0 hc1 hf1
   with_reducible refine (LF.out _).mono ?_
   rintro q_ u4 ⟨rfl, hb⟩
   have B4 := Lib.hid (vian HN.out B3.out hb)
   have P4 := Lib.hid (P3.out.below hb)
   have S4 := Lib.hid (S3.out.below hb)
   clear hb B3 P3 S3
   obtain ⟨hc0, hf0⟩ := P4.out.out
   obtain ⟨hc1, hf1⟩ := S4.out.out
   go_wp2_with (fail)
   clear hc0 hf0 hc1 hf1
   all_goals exact bodyPost_ret (v := .tuple #[.int .u8 0, .bool false]) (by simp [results, Try.results83, go_sem]) rfl ⟨rfl, B4.out⟩
  ·skip
   have d3 : decide (x < xs - 8) = false := decide_eq_false h1
   by_cases h2 : xs ≤ x
   ·skip
    rw [if_neg (by omega)] at hD2
    subst hD2
    clear hz2
    have d4 : decide (xs ≤ x) = true := decide_eq_true h2
    have d5 : decide (xs - 8 + 8 ≤ x) = true := decide_eq_true (by omega)
    go_enter Try.func83, Try.ntmps83
    have Q_ := own1 w (.cells #[.int .u8 c, .int .u8 bk, .int .u8 fi, .int .u8 se] 81)
    have B0 := Lib.hid (vian HN.out BB.out Q_)
    have P0 := Lib.hid (show Has (w.alloc (.cells #[.int .u8 c, .int .u8 bk, .int .u8 fi, .int .u8 se] 81)) w.heap.size #[.int .u8 c, .int .u8 bk, .int .u8 fi, .int .u8 se] by simpa using Has.new w #[.int .u8 c, .int .u8 bk, .int .u8 fi, .int .u8 se] 81)
    have LP := Lib.hid (show n_ ≤ w.heap.size + 0 from Nat.le_add_right_of_le (Nat.le_trans HN.out BB.out.size))
    simp only [Nat.add_zero] at LP
    clear Q_
    go_upto_region 1 with (fail)
    generalize (w.alloc (.cells #[.int .u8 c, .int .u8 bk, .int .u8 fi, .int .u8 se] 81)) = u0 at B0 P0 ⊢
    generalize w.heap.size = pb at P0 LP  ⊢
    obtain ⟨hc0, hf0⟩ := P0.out.out
    go_wp2_with (fail)
    clear hc0 hf0
    with_reducible refine (SP.out _ (HM1.out.at HN.out B0.out)).mono ?_
    rintro q_ u1 ⟨rfl, hb⟩
    have B1 := Lib.hid (vian HN.out B0.out hb)
    have P1 := Lib.hid (P0.out.below hb)
    clear hb B0 P0
    go_wp2_with (refine store_g r43 (Has.new u1 #[.int .u8 0, .int .u8 0, .int .u8 0, .int .u8 0] 105) rfl #[.int .u8 ys, .int .u8 xs, .int .u8 tl, .int .u8 av] rfl (four_one _ _ _ _) rfl _ _ rfl rfl rfl ?_)
    intro u2 hP hk
    have B2 := Lib.hid (keep_new HN.out B1.out _ hk)
    have NPS := Lib.hid (Nat.ne_of_lt P1.out.1)
    have P2 := Lib.hid (hk.has NPS.out (P1.out.below (own1 _ _)))
    have S2 := Lib.hid hP
    have LS := Lib.hid (Nat.le_trans HN.out B1.out.size)
    generalize u1.heap.size = sb at S2 LS NPS ⊢
    clear hk hP B1 P1
    try simp only [Act.put, qqA, qqB, qqC]
    obtain ⟨hc0, hf0⟩ := P2.out.out
    obtain ⟨hc1, hf1⟩ := S2.out.out
    go_wp2_with (fail)
    clear hc0 hf0 hc1 hf1
    with_reducible refine (IL.out _).mono ?_
    rintro q_ u3 ⟨rfl, hb⟩
    have B3 := Lib.hid (vian HN.out B2.out hb)
    have P3 := Lib.hid (P2.out.below hb)
    have S3 := Lib.hid (S2.out.below hb)
    clear hb B2 P2 S2
    obtain ⟨hc0, hf0⟩ := P3.out.out
    obtain ⟨hc1, hf1⟩ := S3.out.out
    go_wp2_with (fail)
    clear hc0 hf0 hc1 hf1
    with_reducible refine (LF.out _).mono ?_
    rintro q_ u4 ⟨rfl, hb⟩
    have B4 := Lib.hid (vian HN.out B3.out hb)
    have P4 := Lib.hid (P3.out.below hb)
    have S4 := Lib.hid (S3.out.below hb)
    clear hb B3 P3 S3
    obtain ⟨hc0, hf0⟩ := P4.out.out
    obtain ⟨hc1, hf1⟩ := S4.out.out
    go_wp2_with (fail)
    clear hc0 hf0 hc1 hf1
    with_reducible refine (LF.out _).mono ?_
    rintro q_ u5 ⟨rfl, hb⟩
    have B5 := Lib.hid (vian HN.out B4.out hb)
    have P5 := Lib.hid (P4.out.below hb)
    have S5 := Lib.hid (S4.out.below hb)
    clear hb B4 P4 S4
    obtain ⟨hc0, hf0⟩ := P5.out.out
    obtain ⟨hc1, hf1⟩ := S5.out.out
    go_wp2_with (fail)
    clear hc0 hf0 hc1 hf1
    all_goals exact bodyPost_ret (v := .tuple #[.int .u8 0, .bool false]) (by simp [results, Try.results83, go_sem]) rfl ⟨rfl, B5.out⟩
   ·skip
    rw [if_pos ⟨rfl, by omega, by omega⟩] at hD2
    have d4 : decide (xs ≤ x) = false := decide_eq_false h2
    have d5 : decide (xs - 8 + 8 ≤ x) = false := decide_eq_false (by omega)
    have hh := hgt_is c
    obtain ⟨k, hk⟩ : ∃ q_, q_ = x - (xs - 8) := ⟨_, rfl⟩
    obtain ⟨r, hr⟩ : ∃ q_, q_ = line - (ys - 16) := ⟨_, rfl⟩
    rw [← hk, ← hr] at hD2
    have ek : IntKind.i64.wrap (x - (xs - 8)) = k := by rw [hk, IntKind.wrap_i64]; omega
    have er : IntKind.i64.wrap (line - (ys - 16)) = r := by rw [hr, IntKind.wrap_i64]; omega
    have CC := Lib.hid (fun W h => CO.out k r (by omega) (by omega) (by omega) (by omega) W h)
    rw [← hD2] at CC
    clear hD2 hk hr hz2 hh CO
    have ed : (D != 0) = (!decide (D = 0)) := by by_cases h : D = 0 <;> simp [h]
    go_enter Try.func83, Try.ntmps83
    have Q_ := own1 w (.cells #[.int .u8 c, .int .u8 bk, .int .u8 fi, .int .u8 se] 81)
    have B0 := Lib.hid (vian HN.out BB.out Q_)
    have P0 := Lib.hid (show Has (w.alloc (.cells #[.int .u8 c, .int .u8 bk, .int .u8 fi, .int .u8 se] 81)) w.heap.size #[.int .u8 c, .int .u8 bk, .int .u8 fi, .int .u8 se] by simpa using Has.new w #[.int .u8 c, .int .u8 bk, .int .u8 fi, .int .u8 se] 81)
    have LP := Lib.hid (show n_ ≤ w.heap.size + 0 from Nat.le_add_right_of_le (Nat.le_trans HN.out BB.out.size))
    simp only [Nat.add_zero] at LP
    clear Q_
    go_upto_region 1 with (fail)
    generalize (w.alloc (.cells #[.int .u8 c, .int .u8 bk, .int .u8 fi, .int .u8 se] 81)) = u0 at B0 P0 ⊢
    generalize w.heap.size = pb at P0 LP  ⊢
    obtain ⟨hc0, hf0⟩ := P0.out.out
    go_wp2_with (fail)
    clear hc0 hf0
    with_reducible refine (SP.out _ (HM1.out.at HN.out B0.out)).mono ?_
    rintro q_ u1 ⟨rfl, hb⟩
    have B1 := Lib.hid (vian HN.out B0.out hb)
    have P1 := Lib.hid (P0.out.below hb)
    clear hb B0 P0
    go_wp2_with (refine store_g r43 (Has.new u1 #[.int .u8 0, .int .u8 0, .int .u8 0, .int .u8 0] 105) rfl #[.int .u8 ys, .int .u8 xs, .int .u8 tl, .int .u8 av] rfl (four_one _ _ _ _) rfl _ _ rfl rfl rfl ?_)
    intro u2 hP hk
    have B2 := Lib.hid (keep_new HN.out B1.out _ hk)
    have NPS := Lib.hid (Nat.ne_of_lt P1.out.1)
    have P2 := Lib.hid (hk.has NPS.out (P1.out.below (own1 _ _)))
    have S2 := Lib.hid hP
    have LS := Lib.hid (Nat.le_trans HN.out B1.out.size)
    generalize u1.heap.size = sb at S2 LS NPS ⊢
    clear hk hP B1 P1
    try simp only [Act.put, qqA, qqB, qqC]
    obtain ⟨hc0, hf0⟩ := P2.out.out
    obtain ⟨hc1, hf1⟩ := S2.out.out
    go_wp2_with (fail)
    clear hc0 hf0 hc1 hf1
    with_reducible refine (IL.out _).mono ?_
    rintro q_ u3 ⟨rfl, hb⟩
    have B3 := Lib.hid (vian HN.out B2.out hb)
    have P3 := Lib.hid (P2.out.below hb)
    have S3 := Lib.hid (S2.out.below hb)
    clear hb B2 P2 S2
    obtain ⟨hc0, hf0⟩ := P3.out.out
    obtain ⟨hc1, hf1⟩ := S3.out.out
    go_wp2_with (fail)
    clear hc0 hf0 hc1 hf1
    with_reducible refine (LF.out _).mono ?_
    rintro q_ u4 ⟨rfl, hb⟩
    have B4 := Lib.hid (vian HN.out B3.out hb)
    have P4 := Lib.hid (P3.out.below hb)
    have S4 := Lib.hid (S3.out.below hb)
    clear hb B3 P3 S3
    obtain ⟨hc0, hf0⟩ := P4.out.out
    obtain ⟨hc1, hf1⟩ := S4.out.out
    go_wp2_with (fail)
    clear hc0 hf0 hc1 hf1
    with_reducible refine (LF.out _).mono ?_
    rintro q_ u5 ⟨rfl, hb⟩
    have B5 := Lib.hid (vian HN.out B4.out hb)
    have P5 := Lib.hid (P4.out.below hb)
    have S5 := Lib.hid (S4.out.below hb)
    clear hb B4 P4 S4
    obtain ⟨hc0, hf0⟩ := P5.out.out
    obtain ⟨hc1, hf1⟩ := S5.out.out
    go_upto_region 6 with (fail)
    clear hc0 hf0 hc1 hf1
    have B6 := Lib.hid B5.out.drew
    have P6 := Lib.hid P5.out.drew
    have S6 := Lib.hid S5.out.drew
    clear B5 P5 S5
    refine wp_region_held_drew (S := (fun w' => (∀ o, w'.cell? ⟨pb, o, none⟩ = (#[.int .u8 c, .int .u8 bk, .int .u8 fi, .int .u8 se])[o]?) ∧ (∀ o, w'.cell? ⟨sb, o, none⟩ = (#[.int .u8 ys, .int .u8 xs, .int .u8 tl, .int .u8 av])[o]?))) (by kernel_rfl) ⟨P6.out.2.1, S6.out.2.1⟩ (fun hHeld => ?_)
    generalize World.drew _ = u6 at hHeld B6 P6 S6 ⊢
    refine tzz 0 ?_
    refine tzz 1 ?_
    refine tzz 2 ?_
    refine tzz 3 ?_
    refine tzz 4 ?_
    refine tzz 7 ?_
    refine tzz 8 ?_
    refine wpAnyH_ready (rs := [5]) (by kernel_rfl) (by simp) ?_
    refine (acc rfl (fun K hK => ?_) AllReadyH.nil)
    ·skip
     go_simp
     with_reducible refine (LF.out _).mono ?_
     rintro q_ u7 ⟨rfl, hb⟩
     have B7 := Lib.hid (vian HN.out B6.out hb)
     have P7 := Lib.hid (P6.out.below hb)
     have S7 := Lib.hid (S6.out.below hb)
     clear hb
     clear B6 P6 S6
     refine hK.out _ _ ?s8 (fun hNew => ?r8)
     case s8 => exact ⟨P7.out.2.1, S7.out.2.1⟩
     clear hK K hHeld
     have hHeld := hNew
     clear hNew
     refine tzz 6 ?_
     refine wpAnyH_ready (rs := [9]) (by kernel_rfl) (by simp) ?_
     refine (acc rfl (fun K hK => ?_) AllReadyH.nil)
     ·skip
      go_simp
      with_reducible refine (TP.out _).mono ?_
      rintro q_ u8 ⟨rfl, hb⟩
      have B8 := Lib.hid (vian HN.out B7.out hb)
      have P8 := Lib.hid (P7.out.below hb)
      have S8 := Lib.hid (S7.out.below hb)
      clear hb
      clear B7 P7 S7
      refine hK.out _ _ ?s10 (fun hNew => ?r10)
      case s10 => exact ⟨P8.out.2.1, S8.out.2.1⟩
      clear hK K hHeld
      have hHeld := hNew
      clear hNew
      refine tzz 10 ?_
      refine wpAnyH_ready (rs := [11]) (by kernel_rfl) (by simp) ?_
      refine (acc rfl (fun K hK => ?_) AllReadyH.nil)
      ·skip
       go_simp
       with_reducible refine (CC.out _ (HM0.out.at HN.out B8.out)).mono ?_
       rintro q_ u9 ⟨rfl, hb⟩
       have B9 := Lib.hid (vian HN.out B8.out hb)
       have P9 := Lib.hid (P8.out.below hb)
       have S9 := Lib.hid (S8.out.below hb)
       clear hb
       clear B8 P8 S8
       refine hK.out _ _ ?s12 (fun hNew => ?r12)
       case s12 => exact ⟨P9.out.2.1, S9.out.2.1⟩
       clear hK K hHeld
       have hHeld := hNew
       clear hNew
       refine tzz 12 ?_
       refine wpAnyH_done (by kernel_rfl) ?_ _
       clear hHeld
       go_wp2_with (fail)
       all_goals exact bodyPost_ret (v := .tuple #[.int .u8 D, .bool (decide (D ≠ 0))]) (by simp [results, Try.results83, go_sem] <;> exact ed) rfl ⟨rfl, B9.out⟩
theorem dotp_c (c bk fi se : Int) (c0 : 0 ≤ c) (c1 : c < 256) (bk0 : 0 ≤ bk) (bk1 : bk < 256) (fi0 : 0 ≤ fi) (fi1 : fi < 256) (se0 : 0 ≤ se) (se1 : se < 256) (vr ov : Value) (V O : M) (n x line : Int) (n0 : -9223372036854775808 ≤ n) (n1 : n ≤ 9223372036854775807) (x0 : -9223372036854775808 ≤ x) (x1 : x ≤ 9223372036854775807) (line0 : -9223372036854775808 ≤ line) (line1 : line ≤ 9223372036854775807) (w : World) (hM0 : Mem w vr V) (hM1 : Mem w ov O) : Calls Try.prog 83 #[.agg #[.int .u8 c, .int .u8 bk, .int .u8 fi, .int .u8 se], vr, ov, .int .i64 n, .int .i64 x, .int .i64 line] w fun q_ w' => q_ = .returned (.tuple #[.int .u8 (seeV V O c n x line), .bool (decide (seeV V O c n x line ≠ 0))]) ∧ Below w.heap.size w w' := by
 unfold seeV
 by_cases h : 0 ≤ n ∧ n < 40
 ·rw [if_pos h]
  obtain ⟨m, rfl⟩ := Int.eq_ofNat_of_zero_le h.1
  exact dotp_in c bk fi se c0 c1 bk0 bk1 fi0 fi1 se0 se1 vr ov V O m (by omega) x line x0 x1 line0 line1 w hM0 hM1
 ·rw [if_neg h]
  exact dotp_out c bk fi se c0 c1 bk0 bk1 fi0 fi1 se0 se1 vr ov V O n x line n0 n1 x0 x1 line0 line1 h w
end Go.Proofs.Ytpfbodmadmneiaa
