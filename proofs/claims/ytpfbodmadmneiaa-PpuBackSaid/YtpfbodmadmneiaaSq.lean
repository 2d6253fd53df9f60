/-
  A sprite's colour at a column and a row: each way, for every memory of at most 8192 bytes.
-/
import Derived.Test.YtpfbodmadmneiaaSp
import Derived.Deep.Cut
import Derived.BigQuiet
import Derived.WalkSmall
namespace Go.Proofs.Ytpfbodmadmneiaa
open Go.ChangeShapes Go.WideShapes Go.ChangeAt Go.RowKit
set_option linter.unusedVariables false
set_option linter.unusedSimpArgs false
set_option maxRecDepth 100000
set_option maxHeartbeats 2000000 in
theorem colour_000 (c bk fi se : Int) (c0 : 0 ≤ c) (c1 : c < 256) (bk0 : 0 ≤ bk) (bk1 : bk < 256) (fi0 : 0 ≤ fi) (fi1 : fi < 256) (se0 : 0 ≤ se) (se1 : se < 256) (ys xs tl av : Int) (ys0 : 0 ≤ ys) (ys1 : ys < 256) (xs0 : 0 ≤ xs) (xs1 : xs < 256) (tl0 : 0 ≤ tl) (tl1 : tl < 256) (av0 : 0 ≤ av) (av1 : av < 256) (vr : Value) (V : M) (k r : Int) (k0 : 0 ≤ k) (k1 : k < 8) (r0 : 0 ≤ r) (r1 : r < hgt c) (h5 : bit av 5 = 0) (h6 : bit av 6 = 0) (h2 : bit c 2 = 0) (w : World) (hM0 : Mem w vr V) : Calls Try.prog 94 #[.agg #[.int .u8 c, .int .u8 bk, .int .u8 fi, .int .u8 se], vr, .agg #[.int .u8 ys, .int .u8 xs, .int .u8 tl, .int .u8 av], .int .i64 k, .int .i64 r] w fun q_ w' => q_ = .returned (.int .u8 (paintV V c tl av k r)) ∧ Below w.heap.size w w' := by
  suffices hall : ∀ (n_ : Nat) (W0 : World), n_ ≤ W0.heap.size → Below n_ W0 w → MemB n_ W0 vr V → Calls Try.prog 94 #[.agg #[.int .u8 c, .int .u8 bk, .int .u8 fi, .int .u8 se], vr, .agg #[.int .u8 ys, .int .u8 xs, .int .u8 tl, .int .u8 av], .int .i64 k, .int .i64 r] w fun q_ w' => q_ = .returned (.int .u8 (paintV V c tl av k r)) ∧ Below n_ W0 w' from hall _ _ (Nat.le_refl _) (Below.refl _ _) hM0
  clear hM0
  intro n_ W0 hn hB hM0
  have HN := Lib.hid hn
  have BB := Lib.hid hB
  clear hn hB
  have HM0 := Lib.hid hM0
  clear hM0
  have hgv : hgt c = 8 := by unfold hgt; rw [h2]; rfl
  have e5 : bits .and .u8 av 32 = 0 := by rw [an5 av av0 av1, h5]; rfl
  have e6 : bits .and .u8 av 64 = 0 := by rw [an6 av av0 av1, h6]; rfl
  have e2 : bits .and .u8 c 4 = 0 := by rw [an2 c c0 c1, h2]; rfl
  have e254 := an254 tl tl0 tl1
  rw [hgv] at r1
  obtain ⟨R, hR⟩ : ∃ q_, q_ = r := ⟨_, rfl⟩
  have R0 : 0 ≤ R := by omega
  have R1 : R < 8 := by omega
  obtain ⟨q8, hq⟩ : ∃ q_, q_ = R / 8 := ⟨_, rfl⟩
  obtain ⟨m8, hm⟩ : ∃ q_, q_ = R % 8 := ⟨_, rfl⟩
  have ev : paintV V c tl av k r = dotV V (tl + q8) (k) m8 := by
    unfold paintV rowV colmV tileV
    rw [hgv, h5, h6, h2, hq, hm, hR]
    rfl
  rw [ev]
  have d1 : (r).tdiv 8 = q8 := by rw [← hR, Int.tdiv_eq_ediv_of_nonneg R0, hq]
  have d2 : (r).tmod 8 = m8 := by rw [← hR, Int.tmod_eq_emod_of_nonneg R0, hm]
  have qb : 0 ≤ q8 ∧ q8 < 2 ∧ 0 ≤ m8 ∧ m8 < 8 := by omega
  have DC := Lib.hid (fun W h => dot_c vr V (tl + q8) (k) m8 (by omega) (by omega) (by omega) (by omega) W h)
  have HG := Lib.hid (fun W => height_c c bk fi se c0 c1 bk0 bk1 fi0 fi1 se0 se1 W)
  rw [hgv] at HG
  generalize dotV V (tl + q8) (k) m8 = D at DC ⊢
  clear ev hgv hR R0 R1 hq hm h5 h6 h2
  go_enter Try.func94, Try.ntmps94
  have Q_ := own2 w (.cells #[.int .u8 c, .int .u8 bk, .int .u8 fi, .int .u8 se] 81) (.cells #[.int .u8 ys, .int .u8 xs, .int .u8 tl, .int .u8 av] 105)
  have B0 := Lib.hid (vian HN.out BB.out Q_)
  have P0 := Lib.hid (show Has ((w.alloc (.cells #[.int .u8 c, .int .u8 bk, .int .u8 fi, .int .u8 se] 81)).alloc (.cells #[.int .u8 ys, .int .u8 xs, .int .u8 tl, .int .u8 av] 105)) w.heap.size #[.int .u8 c, .int .u8 bk, .int .u8 fi, .int .u8 se] by simpa using (Has.new w #[.int .u8 c, .int .u8 bk, .int .u8 fi, .int .u8 se] 81).alloc (.cells #[.int .u8 ys, .int .u8 xs, .int .u8 tl, .int .u8 av] 105))
  have LP := Lib.hid (show n_ ≤ w.heap.size + 0 from Nat.le_add_right_of_le (Nat.le_trans HN.out BB.out.size))
  have Q0 := Lib.hid (show Has ((w.alloc (.cells #[.int .u8 c, .int .u8 bk, .int .u8 fi, .int .u8 se] 81)).alloc (.cells #[.int .u8 ys, .int .u8 xs, .int .u8 tl, .int .u8 av] 105)) (w.heap.size + 1) #[.int .u8 ys, .int .u8 xs, .int .u8 tl, .int .u8 av] by simpa using Has.new (w.alloc (.cells #[.int .u8 c, .int .u8 bk, .int .u8 fi, .int .u8 se] 81)) #[.int .u8 ys, .int .u8 xs, .int .u8 tl, .int .u8 av] 105)
  have LQ := Lib.hid (show n_ ≤ (w.heap.size + 1) from Nat.le_add_right_of_le (Nat.le_trans HN.out BB.out.size))
  have NPQ := Lib.hid (show w.heap.size + 0 ≠ w.heap.size + 1 by omega)
  simp only [Nat.add_zero] at LP NPQ
  clear Q_
  go_upto_region 1 with (fail)
  generalize ((w.alloc (.cells #[.int .u8 c, .int .u8 bk, .int .u8 fi, .int .u8 se] 81)).alloc (.cells #[.int .u8 ys, .int .u8 xs, .int .u8 tl, .int .u8 av] 105)) = u0 at B0 P0 Q0 ⊢
  generalize w.heap.size + 1 = qb at Q0 LQ NPQ ⊢
  generalize w.heap.size = pb at P0 LP NPQ ⊢
  obtain ⟨hc0, hf0⟩ := P0.out.out
  obtain ⟨hc1, hf1⟩ := Q0.out.out
  go_wp2_with (fail)
  clear hc0 hf0 hc1 hf1
  with_reducible refine (DC.out _ (HM0.out.at HN.out B0.out)).mono ?_
  rintro q_ w' ⟨rfl, rfl⟩
  go_wp2_with (fail)
  go_ret
  exact ⟨rfl, B0.out⟩
set_option maxHeartbeats 2000000 in
theorem colour_001 (c bk fi se : Int) (c0 : 0 ≤ c) (c1 : c < 256) (bk0 : 0 ≤ bk) (bk1 : bk < 256) (fi0 : 0 ≤ fi) (fi1 : fi < 256) (se0 : 0 ≤ se) (se1 : se < 256) (ys xs tl av : Int) (ys0 : 0 ≤ ys) (ys1 : ys < 256) (xs0 : 0 ≤ xs) (xs1 : xs < 256) (tl0 : 0 ≤ tl) (tl1 : tl < 256) (av0 : 0 ≤ av) (av1 : av < 256) (vr : Value) (V : M) (k r : Int) (k0 : 0 ≤ k) (k1 : k < 8) (r0 : 0 ≤ r) (r1 : r < hgt c) (h5 : bit av 5 = 0) (h6 : bit av 6 = 0) (h2 : bit c 2 = 1) (w : World) (hM0 : Mem w vr V) : Calls Try.prog 94 #[.agg #[.int .u8 c, .int .u8 bk, .int .u8 fi, .int .u8 se], vr, .agg #[.int .u8 ys, .int .u8 xs, .int .u8 tl, .int .u8 av], .int .i64 k, .int .i64 r] w fun q_ w' => q_ = .returned (.int .u8 (paintV V c tl av k r)) ∧ Below w.heap.size w w' := by
  suffices hall : ∀ (n_ : Nat) (W0 : World), n_ ≤ W0.heap.size → Below n_ W0 w → MemB n_ W0 vr V → Calls Try.prog 94 #[.agg #[.int .u8 c, .int .u8 bk, .int .u8 fi, .int .u8 se], vr, .agg #[.int .u8 ys, .int .u8 xs, .int .u8 tl, .int .u8 av], .int .i64 k, .int .i64 r] w fun q_ w' => q_ = .returned (.int .u8 (paintV V c tl av k r)) ∧ Below n_ W0 w' from hall _ _ (Nat.le_refl _) (Below.refl _ _) hM0
  clear hM0
  intro n_ W0 hn hB hM0
  have HN := Lib.hid hn
  have BB := Lib.hid hB
  clear hn hB
  have HM0 := Lib.hid hM0
  clear hM0
  have hgv : hgt c = 16 := by unfold hgt; rw [h2]; rfl
  have e5 : bits .and .u8 av 32 = 0 := by rw [an5 av av0 av1, h5]; rfl
  have e6 : bits .and .u8 av 64 = 0 := by rw [an6 av av0 av1, h6]; rfl
  have e2 : bits .and .u8 c 4 = 4 := by rw [an2 c c0 c1, h2]; rfl
  have e254 := an254 tl tl0 tl1
  rw [hgv] at r1
  obtain ⟨R, hR⟩ : ∃ q_, q_ = r := ⟨_, rfl⟩
  have R0 : 0 ≤ R := by omega
  have R1 : R < 16 := by omega
  obtain ⟨q8, hq⟩ : ∃ q_, q_ = R / 8 := ⟨_, rfl⟩
  obtain ⟨m8, hm⟩ : ∃ q_, q_ = R % 8 := ⟨_, rfl⟩
  have ev : paintV V c tl av k r = dotV V (tl / 2 * 2 + q8) (k) m8 := by
    unfold paintV rowV colmV tileV
    rw [hgv, h5, h6, h2, hq, hm, hR]
    rfl
  rw [ev]
  have d1 : (r).tdiv 8 = q8 := by rw [← hR, Int.tdiv_eq_ediv_of_nonneg R0, hq]
  have d2 : (r).tmod 8 = m8 := by rw [← hR, Int.tmod_eq_emod_of_nonneg R0, hm]
  have qb : 0 ≤ q8 ∧ q8 < 2 ∧ 0 ≤ m8 ∧ m8 < 8 := by omega
  have DC := Lib.hid (fun W h => dot_c vr V (tl / 2 * 2 + q8) (k) m8 (by omega) (by omega) (by omega) (by omega) W h)
  have HG := Lib.hid (fun W => height_c c bk fi se c0 c1 bk0 bk1 fi0 fi1 se0 se1 W)
  rw [hgv] at HG
  generalize dotV V (tl / 2 * 2 + q8) (k) m8 = D at DC ⊢
  clear ev hgv hR R0 R1 hq hm h5 h6 h2
  go_enter Try.func94, Try.ntmps94
  have Q_ := own2 w (.cells #[.int .u8 c, .int .u8 bk, .int .u8 fi, .int .u8 se] 81) (.cells #[.int .u8 ys, .int .u8 xs, .int .u8 tl, .int .u8 av] 105)
  have B0 := Lib.hid (vian HN.out BB.out Q_)
  have P0 := Lib.hid (show Has ((w.alloc (.cells #[.int .u8 c, .int .u8 bk, .int .u8 fi, .int .u8 se] 81)).alloc (.cells #[.int .u8 ys, .int .u8 xs, .int .u8 tl, .int .u8 av] 105)) w.heap.size #[.int .u8 c, .int .u8 bk, .int .u8 fi, .int .u8 se] by simpa using (Has.new w #[.int .u8 c, .int .u8 bk, .int .u8 fi, .int .u8 se] 81).alloc (.cells #[.int .u8 ys, .int .u8 xs, .int .u8 tl, .int .u8 av] 105))
  have LP := Lib.hid (show n_ ≤ w.heap.size + 0 from Nat.le_add_right_of_le (Nat.le_trans HN.out BB.out.size))
  have Q0 := Lib.hid (show Has ((w.alloc (.cells #[.int .u8 c, .int .u8 bk, .int .u8 fi, .int .u8 se] 81)).alloc (.cells #[.int .u8 ys, .int .u8 xs, .int .u8 tl, .int .u8 av] 105)) (w.heap.size + 1) #[.int .u8 ys, .int .u8 xs, .int .u8 tl, .int .u8 av] by simpa using Has.new (w.alloc (.cells #[.int .u8 c, .int .u8 bk, .int .u8 fi, .int .u8 se] 81)) #[.int .u8 ys, .int .u8 xs, .int .u8 tl, .int .u8 av] 105)
  have LQ := Lib.hid (show n_ ≤ (w.heap.size + 1) from Nat.le_add_right_of_le (Nat.le_trans HN.out BB.out.size))
  have NPQ := Lib.hid (show w.heap.size + 0 ≠ w.heap.size + 1 by omega)
  simp only [Nat.add_zero] at LP NPQ
  clear Q_
  go_upto_region 1 with (fail)
  generalize ((w.alloc (.cells #[.int .u8 c, .int .u8 bk, .int .u8 fi, .int .u8 se] 81)).alloc (.cells #[.int .u8 ys, .int .u8 xs, .int .u8 tl, .int .u8 av] 105)) = u0 at B0 P0 Q0 ⊢
  generalize w.heap.size + 1 = qb at Q0 LQ NPQ ⊢
  generalize w.heap.size = pb at P0 LP NPQ ⊢
  obtain ⟨hc0, hf0⟩ := P0.out.out
  obtain ⟨hc1, hf1⟩ := Q0.out.out
  go_wp2_with (fail)
  clear hc0 hf0 hc1 hf1
  with_reducible refine (DC.out _ (HM0.out.at HN.out B0.out)).mono ?_
  rintro q_ w' ⟨rfl, rfl⟩
  go_wp2_with (fail)
  go_ret
  exact ⟨rfl, B0.out⟩
set_option maxHeartbeats 2000000 in
theorem colour_010 (c bk fi se : Int) (c0 : 0 ≤ c) (c1 : c < 256) (bk0 : 0 ≤ bk) (bk1 : bk < 256) (fi0 : 0 ≤ fi) (fi1 : fi < 256) (se0 : 0 ≤ se) (se1 : se < 256) (ys xs tl av : Int) (ys0 : 0 ≤ ys) (ys1 : ys < 256) (xs0 : 0 ≤ xs) (xs1 : xs < 256) (tl0 : 0 ≤ tl) (tl1 : tl < 256) (av0 : 0 ≤ av) (av1 : av < 256) (vr : Value) (V : M) (k r : Int) (k0 : 0 ≤ k) (k1 : k < 8) (r0 : 0 ≤ r) (r1 : r < hgt c) (h5 : bit av 5 = 0) (h6 : bit av 6 = 1) (h2 : bit c 2 = 0) (w : World) (hM0 : Mem w vr V) : Calls Try.prog 94 #[.agg #[.int .u8 c, .int .u8 bk, .int .u8 fi, .int .u8 se], vr, .agg #[.int .u8 ys, .int .u8 xs, .int .u8 tl, .int .u8 av], .int .i64 k, .int .i64 r] w fun q_ w' => q_ = .returned (.int .u8 (paintV V c tl av k r)) ∧ Below w.heap.size w w' := by
  suffices hall : ∀ (n_ : Nat) (W0 : World), n_ ≤ W0.heap.size → Below n_ W0 w → MemB n_ W0 vr V → Calls Try.prog 94 #[.agg #[.int .u8 c, .int .u8 bk, .int .u8 fi, .int .u8 se], vr, .agg #[.int .u8 ys, .int .u8 xs, .int .u8 tl, .int .u8 av], .int .i64 k, .int .i64 r] w fun q_ w' => q_ = .returned (.int .u8 (paintV V c tl av k r)) ∧ Below n_ W0 w' from hall _ _ (Nat.le_refl _) (Below.refl _ _) hM0
  clear hM0
  intro n_ W0 hn hB hM0
  have HN := Lib.hid hn
  have BB := Lib.hid hB
  clear hn hB
  have HM0 := Lib.hid hM0
  clear hM0
  have hgv : hgt c = 8 := by unfold hgt; rw [h2]; rfl
  have e5 : bits .and .u8 av 32 = 0 := by rw [an5 av av0 av1, h5]; rfl
  have e6 : bits .and .u8 av 64 = 64 := by rw [an6 av av0 av1, h6]; rfl
  have e2 : bits .and .u8 c 4 = 0 := by rw [an2 c c0 c1, h2]; rfl
  have e254 := an254 tl tl0 tl1
  rw [hgv] at r1
  obtain ⟨R, hR⟩ : ∃ q_, q_ = 7 - r := ⟨_, rfl⟩
  have R0 : 0 ≤ R := by omega
  have R1 : R < 8 := by omega
  obtain ⟨q8, hq⟩ : ∃ q_, q_ = R / 8 := ⟨_, rfl⟩
  obtain ⟨m8, hm⟩ : ∃ q_, q_ = R % 8 := ⟨_, rfl⟩
  have ev : paintV V c tl av k r = dotV V (tl + q8) (k) m8 := by
    unfold paintV rowV colmV tileV
    rw [hgv, h5, h6, h2, hq, hm, hR]
    rfl
  rw [ev]
  have d1 : (7 - r).tdiv 8 = q8 := by rw [← hR, Int.tdiv_eq_ediv_of_nonneg R0, hq]
  have d2 : (7 - r).tmod 8 = m8 := by rw [← hR, Int.tmod_eq_emod_of_nonneg R0, hm]
  have qb : 0 ≤ q8 ∧ q8 < 2 ∧ 0 ≤ m8 ∧ m8 < 8 := by omega
  have DC := Lib.hid (fun W h => dot_c vr V (tl + q8) (k) m8 (by omega) (by omega) (by omega) (by omega) W h)
  have HG := Lib.hid (fun W => height_c c bk fi se c0 c1 bk0 bk1 fi0 fi1 se0 se1 W)
  rw [hgv] at HG
  generalize dotV V (tl + q8) (k) m8 = D at DC ⊢
  clear ev hgv hR R0 R1 hq hm h5 h6 h2
  go_enter Try.func94, Try.ntmps94
  have Q_ := own2 w (.cells #[.int .u8 c, .int .u8 bk, .int .u8 fi, .int .u8 se] 81) (.cells #[.int .u8 ys, .int .u8 xs, .int .u8 tl, .int .u8 av] 105)
  have B0 := Lib.hid (vian HN.out BB.out Q_)
  have P0 := Lib.hid (show Has ((w.alloc (.cells #[.int .u8 c, .int .u8 bk, .int .u8 fi, .int .u8 se] 81)).alloc (.cells #[.int .u8 ys, .int .u8 xs, .int .u8 tl, .int .u8 av] 105)) w.heap.size #[.int .u8 c, .int .u8 bk, .int .u8 fi, .int .u8 se] by simpa using (Has.new w #[.int .u8 c, .int .u8 bk, .int .u8 fi, .int .u8 se] 81).alloc (.cells #[.int .u8 ys, .int .u8 xs, .int .u8 tl, .int .u8 av] 105))
  have LP := Lib.hid (show n_ ≤ w.heap.size + 0 from Nat.le_add_right_of_le (Nat.le_trans HN.out BB.out.size))
  have Q0 := Lib.hid (show Has ((w.alloc (.cells #[.int .u8 c, .int .u8 bk, .int .u8 fi, .int .u8 se] 81)).alloc (.cells #[.int .u8 ys, .int .u8 xs, .int .u8 tl, .int .u8 av] 105)) (w.heap.size + 1) #[.int .u8 ys, .int .u8 xs, .int .u8 tl, .int .u8 av] by simpa using Has.new (w.alloc (.cells #[.int .u8 c, .int .u8 bk, .int .u8 fi, .int .u8 se] 81)) #[.int .u8 ys, .int .u8 xs, .int .u8 tl, .int .u8 av] 105)
  have LQ := Lib.hid (show n_ ≤ (w.heap.size + 1) from Nat.le_add_right_of_le (Nat.le_trans HN.out BB.out.size))
  have NPQ := Lib.hid (show w.heap.size + 0 ≠ w.heap.size + 1 by omega)
  simp only [Nat.add_zero] at LP NPQ
  clear Q_
  go_upto_region 1 with (fail)
  generalize ((w.alloc (.cells #[.int .u8 c, .int .u8 bk, .int .u8 fi, .int .u8 se] 81)).alloc (.cells #[.int .u8 ys, .int .u8 xs, .int .u8 tl, .int .u8 av] 105)) = u0 at B0 P0 Q0 ⊢
  generalize w.heap.size + 1 = qb at Q0 LQ NPQ ⊢
  generalize w.heap.size = pb at P0 LP NPQ ⊢
  obtain ⟨hc0, hf0⟩ := P0.out.out
  obtain ⟨hc1, hf1⟩ := Q0.out.out
  go_wp2_with (fail)
  clear hc0 hf0 hc1 hf1
  with_reducible refine (HG.out _).mono ?_
  rintro q_ u1 ⟨rfl, hb⟩
  have B1 := Lib.hid (vian HN.out B0.out hb)
  have P1 := Lib.hid (P0.out.below hb)
  have Q1 := Lib.hid (Q0.out.below hb)
  clear hb B0 P0 Q0
  obtain ⟨hc0, hf0⟩ := P1.out.out
  obtain ⟨hc1, hf1⟩ := Q1.out.out
  go_wp2_with (fail)
  clear hc0 hf0 hc1 hf1
  with_reducible refine (DC.out _ (HM0.out.at HN.out B1.out)).mono ?_
  rintro q_ w' ⟨rfl, rfl⟩
  go_wp2_with (fail)
  go_ret
  exact ⟨rfl, B1.out⟩
set_option maxHeartbeats 2000000 in
theorem colour_011 (c bk fi se : Int) (c0 : 0 ≤ c) (c1 : c < 256) (bk0 : 0 ≤ bk) (bk1 : bk < 256) (fi0 : 0 ≤ fi) (fi1 : fi < 256) (se0 : 0 ≤ se) (se1 : se < 256) (ys xs tl av : Int) (ys0 : 0 ≤ ys) (ys1 : ys < 256) (xs0 : 0 ≤ xs) (xs1 : xs < 256) (tl0 : 0 ≤ tl) (tl1 : tl < 256) (av0 : 0 ≤ av) (av1 : av < 256) (vr : Value) (V : M) (k r : Int) (k0 : 0 ≤ k) (k1 : k < 8) (r0 : 0 ≤ r) (r1 : r < hgt c) (h5 : bit av 5 = 0) (h6 : bit av 6 = 1) (h2 : bit c 2 = 1) (w : World) (hM0 : Mem w vr V) : Calls Try.prog 94 #[.agg #[.int .u8 c, .int .u8 bk, .int .u8 fi, .int .u8 se], vr, .agg #[.int .u8 ys, .int .u8 xs, .int .u8 tl, .int .u8 av], .int .i64 k, .int .i64 r] w fun q_ w' => q_ = .returned (.int .u8 (paintV V c tl av k r)) ∧ Below w.heap.size w w' := by
  suffices hall : ∀ (n_ : Nat) (W0 : World), n_ ≤ W0.heap.size → Below n_ W0 w → MemB n_ W0 vr V → Calls Try.prog 94 #[.agg #[.int .u8 c, .int .u8 bk, .int .u8 fi, .int .u8 se], vr, .agg #[.int .u8 ys, .int .u8 xs, .int .u8 tl, .int .u8 av], .int .i64 k, .int .i64 r] w fun q_ w' => q_ = .returned (.int .u8 (paintV V c tl av k r)) ∧ Below n_ W0 w' from hall _ _ (Nat.le_refl _) (Below.refl _ _) hM0
  clear hM0
  intro n_ W0 hn hB hM0
  have HN := Lib.hid hn
  have BB := Lib.hid hB
  clear hn hB
  have HM0 := Lib.hid hM0
  clear hM0
  have hgv : hgt c = 16 := by unfold hgt; rw [h2]; rfl
  have e5 : bits .and .u8 av 32 = 0 := by rw [an5 av av0 av1, h5]; rfl
  have e6 : bits .and .u8 av 64 = 64 := by rw [an6 av av0 av1, h6]; rfl
  have e2 : bits .and .u8 c 4 = 4 := by rw [an2 c c0 c1, h2]; rfl
  have e254 := an254 tl tl0 tl1
  rw [hgv] at r1
  obtain ⟨R, hR⟩ : ∃ q_, q_ = 15 - r := ⟨_, rfl⟩
  have R0 : 0 ≤ R := by omega
  have R1 : R < 16 := by omega
  obtain ⟨q8, hq⟩ : ∃ q_, q_ = R / 8 := ⟨_, rfl⟩
  obtain ⟨m8, hm⟩ : ∃ q_, q_ = R % 8 := ⟨_, rfl⟩
  have ev : paintV V c tl av k r = dotV V (tl / 2 * 2 + q8) (k) m8 := by
    unfold paintV rowV colmV tileV
    rw [hgv, h5, h6, h2, hq, hm, hR]
    rfl
  rw [ev]
  have d1 : (15 - r).tdiv 8 = q8 := by rw [← hR, Int.tdiv_eq_ediv_of_nonneg R0, hq]
  have d2 : (15 - r).tmod 8 = m8 := by rw [← hR, Int.tmod_eq_emod_of_nonneg R0, hm]
  have qb : 0 ≤ q8 ∧ q8 < 2 ∧ 0 ≤ m8 ∧ m8 < 8 := by omega
  have DC := Lib.hid (fun W h => dot_c vr V (tl / 2 * 2 + q8) (k) m8 (by omega) (by omega) (by omega) (by omega) W h)
  have HG := Lib.hid (fun W => height_c c bk fi se c0 c1 bk0 bk1 fi0 fi1 se0 se1 W)
  rw [hgv] at HG
  generalize dotV V (tl / 2 * 2 + q8) (k) m8 = D at DC ⊢
  clear ev hgv hR R0 R1 hq hm h5 h6 h2
  go_enter Try.func94, Try.ntmps94
  have Q_ := own2 w (.cells #[.int .u8 c, .int .u8 bk, .int .u8 fi, .int .u8 se] 81) (.cells #[.int .u8 ys, .int .u8 xs, .int .u8 tl, .int .u8 av] 105)
  have B0 := Lib.hid (vian HN.out BB.out Q_)
  have P0 := Lib.hid (show Has ((w.alloc (.cells #[.int .u8 c, .int .u8 bk, .int .u8 fi, .int .u8 se] 81)).alloc (.cells #[.int .u8 ys, .int .u8 xs, .int .u8 tl, .int .u8 av] 105)) w.heap.size #[.int .u8 c, .int .u8 bk, .int .u8 fi, .int .u8 se] by simpa using (Has.new w #[.int .u8 c, .int .u8 bk, .int .u8 fi, .int .u8 se] 81).alloc (.cells #[.int .u8 ys, .int .u8 xs, .int .u8 tl, .int .u8 av] 105))
  have LP := Lib.hid (show n_ ≤ w.heap.size + 0 from Nat.le_add_right_of_le (Nat.le_trans HN.out BB.out.size))
  have Q0 := Lib.hid (show Has ((w.alloc (.cells #[.int .u8 c, .int .u8 bk, .int .u8 fi, .int .u8 se] 81)).alloc (.cells #[.int .u8 ys, .int .u8 xs, .int .u8 tl, .int .u8 av] 105)) (w.heap.size + 1) #[.int .u8 ys, .int .u8 xs, .int .u8 tl, .int .u8 av] by simpa using Has.new (w.alloc (.cells #[.int .u8 c, .int .u8 bk, .int .u8 fi, .int .u8 se] 81)) #[.int .u8 ys, .int .u8 xs, .int .u8 tl, .int .u8 av] 105)
  have LQ := Lib.hid (show n_ ≤ (w.heap.size + 1) from Nat.le_add_right_of_le (Nat.le_trans HN.out BB.out.size))
  have NPQ := Lib.hid (show w.heap.size + 0 ≠ w.heap.size + 1 by omega)
  simp only [Nat.add_zero] at LP NPQ
  clear Q_
  go_upto_region 1 with (fail)
  generalize ((w.alloc (.cells #[.int .u8 c, .int .u8 bk, .int .u8 fi, .int .u8 se] 81)).alloc (.cells #[.int .u8 ys, .int .u8 xs, .int .u8 tl, .int .u8 av] 105)) = u0 at B0 P0 Q0 ⊢
  generalize w.heap.size + 1 = qb at Q0 LQ NPQ ⊢
  generalize w.heap.size = pb at P0 LP NPQ ⊢
  obtain ⟨hc0, hf0⟩ := P0.out.out
  obtain ⟨hc1, hf1⟩ := Q0.out.out
  go_wp2_with (fail)
  clear hc0 hf0 hc1 hf1
  with_reducible refine (HG.out _).mono ?_
  rintro q_ u1 ⟨rfl, hb⟩
  have B1 := Lib.hid (vian HN.out B0.out hb)
  have P1 := Lib.hid (P0.out.below hb)
  have Q1 := Lib.hid (Q0.out.below hb)
  clear hb B0 P0 Q0
  obtain ⟨hc0, hf0⟩ := P1.out.out
  obtain ⟨hc1, hf1⟩ := Q1.out.out
  go_wp2_with (fail)
  clear hc0 hf0 hc1 hf1
  with_reducible refine (DC.out _ (HM0.out.at HN.out B1.out)).mono ?_
  rintro q_ w' ⟨rfl, rfl⟩
  go_wp2_with (fail)
  go_ret
  exact ⟨rfl, B1.out⟩
set_option maxHeartbeats 2000000 in
theorem colour_100 (c bk fi se : Int) (c0 : 0 ≤ c) (c1 : c < 256) (bk0 : 0 ≤ bk) (bk1 : bk < 256) (fi0 : 0 ≤ fi) (fi1 : fi < 256) (se0 : 0 ≤ se) (se1 : se < 256) (ys xs tl av : Int) (ys0 : 0 ≤ ys) (ys1 : ys < 256) (xs0 : 0 ≤ xs) (xs1 : xs < 256) (tl0 : 0 ≤ tl) (tl1 : tl < 256) (av0 : 0 ≤ av) (av1 : av < 256) (vr : Value) (V : M) (k r : Int) (k0 : 0 ≤ k) (k1 : k < 8) (r0 : 0 ≤ r) (r1 : r < hgt c) (h5 : bit av 5 = 1) (h6 : bit av 6 = 0) (h2 : bit c 2 = 0) (w : World) (hM0 : Mem w vr V) : Calls Try.prog 94 #[.agg #[.int .u8 c, .int .u8 bk, .int .u8 fi, .int .u8 se], vr, .agg #[.int .u8 ys, .int .u8 xs, .int .u8 tl, .int .u8 av], .int .i64 k, .int .i64 r] w fun q_ w' => q_ = .returned (.int .u8 (paintV V c tl av k r)) ∧ Below w.heap.size w w' := by
  suffices hall : ∀ (n_ : Nat) (W0 : World), n_ ≤ W0.heap.size → Below n_ W0 w → MemB n_ W0 vr V → Calls Try.prog 94 #[.agg #[.int .u8 c, .int .u8 bk, .int .u8 fi, .int .u8 se], vr, .agg #[.int .u8 ys, .int .u8 xs, .int .u8 tl, .int .u8 av], .int .i64 k, .int .i64 r] w fun q_ w' => q_ = .returned (.int .u8 (paintV V c tl av k r)) ∧ Below n_ W0 w' from hall _ _ (Nat.le_refl _) (Below.refl _ _) hM0
  clear hM0
  intro n_ W0 hn hB hM0
  have HN := Lib.hid hn
  have BB := Lib.hid hB
  clear hn hB
  have HM0 := Lib.hid hM0
  clear hM0
  have hgv : hgt c = 8 := by unfold hgt; rw [h2]; rfl
  have e5 : bits .and .u8 av 32 = 32 := by rw [an5 av av0 av1, h5]; rfl
  have e6 : bits .and .u8 av 64 = 0 := by rw [an6 av av0 av1, h6]; rfl
  have e2 : bits .and .u8 c 4 = 0 := by rw [an2 c c0 c1, h2]; rfl
  have e254 := an254 tl tl0 tl1
  rw [hgv] at r1
  obtain ⟨R, hR⟩ : ∃ q_, q_ = r := ⟨_, rfl⟩
  have R0 : 0 ≤ R := by omega
  have R1 : R < 8 := by omega
  obtain ⟨q8, hq⟩ : ∃ q_, q_ = R / 8 := ⟨_, rfl⟩
  obtain ⟨m8, hm⟩ : ∃ q_, q_ = R % 8 := ⟨_, rfl⟩
  have ev : paintV V c tl av k r = dotV V (tl + q8) (7 - k) m8 := by
    unfold paintV rowV colmV tileV
    rw [hgv, h5, h6, h2, hq, hm, hR]
    rfl
  rw [ev]
  have d1 : (r).tdiv 8 = q8 := by rw [← hR, Int.tdiv_eq_ediv_of_nonneg R0, hq]
  have d2 : (r).tmod 8 = m8 := by rw [← hR, Int.tmod_eq_emod_of_nonneg R0, hm]
  have qb : 0 ≤ q8 ∧ q8 < 2 ∧ 0 ≤ m8 ∧ m8 < 8 := by omega
  have DC := Lib.hid (fun W h => dot_c vr V (tl + q8) (7 - k) m8 (by omega) (by omega) (by omega) (by omega) W h)
  have HG := Lib.hid (fun W => height_c c bk fi se c0 c1 bk0 bk1 fi0 fi1 se0 se1 W)
  rw [hgv] at HG
  generalize dotV V (tl + q8) (7 - k) m8 = D at DC ⊢
  clear ev hgv hR R0 R1 hq hm h5 h6 h2
  go_enter Try.func94, Try.ntmps94
  have Q_ := own2 w (.cells #[.int .u8 c, .int .u8 bk, .int .u8 fi, .int .u8 se] 81) (.cells #[.int .u8 ys, .int .u8 xs, .int .u8 tl, .int .u8 av] 105)
  have B0 := Lib.hid (vian HN.out BB.out Q_)
  have P0 := Lib.hid (show Has ((w.alloc (.cells #[.int .u8 c, .int .u8 bk, .int .u8 fi, .int .u8 se] 81)).alloc (.cells #[.int .u8 ys, .int .u8 xs, .int .u8 tl, .int .u8 av] 105)) w.heap.size #[.int .u8 c, .int .u8 bk, .int .u8 fi, .int .u8 se] by simpa using (Has.new w #[.int .u8 c, .int .u8 bk, .int .u8 fi, .int .u8 se] 81).alloc (.cells #[.int .u8 ys, .int .u8 xs, .int .u8 tl, .int .u8 av] 105))
  have LP := Lib.hid (show n_ ≤ w.heap.size + 0 from Nat.le_add_right_of_le (Nat.le_trans HN.out BB.out.size))
  have Q0 := Lib.hid (show Has ((w.alloc (.cells #[.int .u8 c, .int .u8 bk, .int .u8 fi, .int .u8 se] 81)).alloc (.cells #[.int .u8 ys, .int .u8 xs, .int .u8 tl, .int .u8 av] 105)) (w.heap.size + 1) #[.int .u8 ys, .int .u8 xs, .int .u8 tl, .int .u8 av] by simpa using Has.new (w.alloc (.cells #[.int .u8 c, .int .u8 bk, .int .u8 fi, .int .u8 se] 81)) #[.int .u8 ys, .int .u8 xs, .int .u8 tl, .int .u8 av] 105)
  have LQ := Lib.hid (show n_ ≤ (w.heap.size + 1) from Nat.le_add_right_of_le (Nat.le_trans HN.out BB.out.size))
  have NPQ := Lib.hid (show w.heap.size + 0 ≠ w.heap.size + 1 by omega)
  simp only [Nat.add_zero] at LP NPQ
  clear Q_
  go_upto_region 1 with (fail)
  generalize ((w.alloc (.cells #[.int .u8 c, .int .u8 bk, .int .u8 fi, .int .u8 se] 81)).alloc (.cells #[.int .u8 ys, .int .u8 xs, .int .u8 tl, .int .u8 av] 105)) = u0 at B0 P0 Q0 ⊢
  generalize w.heap.size + 1 = qb at Q0 LQ NPQ ⊢
  generalize w.heap.size = pb at P0 LP NPQ ⊢
  obtain ⟨hc0, hf0⟩ := P0.out.out
  obtain ⟨hc1, hf1⟩ := Q0.out.out
  go_wp2_with (fail)
  clear hc0 hf0 hc1 hf1
  with_reducible refine (DC.out _ (HM0.out.at HN.out B0.out)).mono ?_
  rintro q_ w' ⟨rfl, rfl⟩
  go_wp2_with (fail)
  go_ret
  exact ⟨rfl, B0.out⟩
set_option maxHeartbeats 2000000 in
theorem colour_101 (c bk fi se : Int) (c0 : 0 ≤ c) (c1 : c < 256) (bk0 : 0 ≤ bk) (bk1 : bk < 256) (fi0 : 0 ≤ fi) (fi1 : fi < 256) (se0 : 0 ≤ se) (se1 : se < 256) (ys xs tl av : Int) (ys0 : 0 ≤ ys) (ys1 : ys < 256) (xs0 : 0 ≤ xs) (xs1 : xs < 256) (tl0 : 0 ≤ tl) (tl1 : tl < 256) (av0 : 0 ≤ av) (av1 : av < 256) (vr : Value) (V : M) (k r : Int) (k0 : 0 ≤ k) (k1 : k < 8) (r0 : 0 ≤ r) (r1 : r < hgt c) (h5 : bit av 5 = 1) (h6 : bit av 6 = 0) (h2 : bit c 2 = 1) (w : World) (hM0 : Mem w vr V) : Calls Try.prog 94 #[.agg #[.int .u8 c, .int .u8 bk, .int .u8 fi, .int .u8 se], vr, .agg #[.int .u8 ys, .int .u8 xs, .int .u8 tl, .int .u8 av], .int .i64 k, .int .i64 r] w fun q_ w' => q_ = .returned (.int .u8 (paintV V c tl av k r)) ∧ Below w.heap.size w w' := by
  suffices hall : ∀ (n_ : Nat) (W0 : World), n_ ≤ W0.heap.size → Below n_ W0 w → MemB n_ W0 vr V → Calls Try.prog 94 #[.agg #[.int .u8 c, .int .u8 bk, .int .u8 fi, .int .u8 se], vr, .agg #[.int .u8 ys, .int .u8 xs, .int .u8 tl, .int .u8 av], .int .i64 k, .int .i64 r] w fun q_ w' => q_ = .returned (.int .u8 (paintV V c tl av k r)) ∧ Below n_ W0 w' from hall _ _ (Nat.le_refl _) (Below.refl _ _) hM0
  clear hM0
  intro n_ W0 hn hB hM0
  have HN := Lib.hid hn
  have BB := Lib.hid hB
  clear hn hB
  have HM0 := Lib.hid hM0
  clear hM0
  have hgv : hgt c = 16 := by unfold hgt; rw [h2]; rfl
  have e5 : bits .and .u8 av 32 = 32 := by rw [an5 av av0 av1, h5]; rfl
  have e6 : bits .and .u8 av 64 = 0 := by rw [an6 av av0 av1, h6]; rfl
  have e2 : bits .and .u8 c 4 = 4 := by rw [an2 c c0 c1, h2]; rfl
  have e254 := an254 tl tl0 tl1
  rw [hgv] at r1
  obtain ⟨R, hR⟩ : ∃ q_, q_ = r := ⟨_, rfl⟩
  have R0 : 0 ≤ R := by omega
  have R1 : R < 16 := by omega
  obtain ⟨q8, hq⟩ : ∃ q_, q_ = R / 8 := ⟨_, rfl⟩
  obtain ⟨m8, hm⟩ : ∃ q_, q_ = R % 8 := ⟨_, rfl⟩
  have ev : paintV V c tl av k r = dotV V (tl / 2 * 2 + q8) (7 - k) m8 := by
    unfold paintV rowV colmV tileV
    rw [hgv, h5, h6, h2, hq, hm, hR]
    rfl
  rw [ev]
  have d1 : (r).tdiv 8 = q8 := by rw [← hR, Int.tdiv_eq_ediv_of_nonneg R0, hq]
  have d2 : (r).tmod 8 = m8 := by rw [← hR, Int.tmod_eq_emod_of_nonneg R0, hm]
  have qb : 0 ≤ q8 ∧ q8 < 2 ∧ 0 ≤ m8 ∧ m8 < 8 := by omega
  have DC := Lib.hid (fun W h => dot_c vr V (tl / 2 * 2 + q8) (7 - k) m8 (by omega) (by omega) (by omega) (by omega) W h)
  have HG := Lib.hid (fun W => height_c c bk fi se c0 c1 bk0 bk1 fi0 fi1 se0 se1 W)
  rw [hgv] at HG
  generalize dotV V (tl / 2 * 2 + q8) (7 - k) m8 = D at DC ⊢
  clear ev hgv hR R0 R1 hq hm h5 h6 h2
  go_enter Try.func94, Try.ntmps94
  have Q_ := own2 w (.cells #[.int .u8 c, .int .u8 bk, .int .u8 fi, .int .u8 se] 81) (.cells #[.int .u8 ys, .int .u8 xs, .int .u8 tl, .int .u8 av] 105)
  have B0 := Lib.hid (vian HN.out BB.out Q_)
  have P0 := Lib.hid (show Has ((w.alloc (.cells #[.int .u8 c, .int .u8 bk, .int .u8 fi, .int .u8 se] 81)).alloc (.cells #[.int .u8 ys, .int .u8 xs, .int .u8 tl, .int .u8 av] 105)) w.heap.size #[.int .u8 c, .int .u8 bk, .int .u8 fi, .int .u8 se] by simpa using (Has.new w #[.int .u8 c, .int .u8 bk, .int .u8 fi, .int .u8 se] 81).alloc (.cells #[.int .u8 ys, .int .u8 xs, .int .u8 tl, .int .u8 av] 105))
  have LP := Lib.hid (show n_ ≤ w.heap.size + 0 from Nat.le_add_right_of_le (Nat.le_trans HN.out BB.out.size))
  have Q0 := Lib.hid (show Has ((w.alloc (.cells #[.int .u8 c, .int .u8 bk, .int .u8 fi, .int .u8 se] 81)).alloc (.cells #[.int .u8 ys, .int .u8 xs, .int .u8 tl, .int .u8 av] 105)) (w.heap.size + 1) #[.int .u8 ys, .int .u8 xs, .int .u8 tl, .int .u8 av] by simpa using Has.new (w.alloc (.cells #[.int .u8 c, .int .u8 bk, .int .u8 fi, .int .u8 se] 81)) #[.int .u8 ys, .int .u8 xs, .int .u8 tl, .int .u8 av] 105)
  have LQ := Lib.hid (show n_ ≤ (w.heap.size + 1) from Nat.le_add_right_of_le (Nat.le_trans HN.out BB.out.size))
  have NPQ := Lib.hid (show w.heap.size + 0 ≠ w.heap.size + 1 by omega)
  simp only [Nat.add_zero] at LP NPQ
  clear Q_
  go_upto_region 1 with (fail)
  generalize ((w.alloc (.cells #[.int .u8 c, .int .u8 bk, .int .u8 fi, .int .u8 se] 81)).alloc (.cells #[.int .u8 ys, .int .u8 xs, .int .u8 tl, .int .u8 av] 105)) = u0 at B0 P0 Q0 ⊢
  generalize w.heap.size + 1 = qb at Q0 LQ NPQ ⊢
  generalize w.heap.size = pb at P0 LP NPQ ⊢
  obtain ⟨hc0, hf0⟩ := P0.out.out
  obtain ⟨hc1, hf1⟩ := Q0.out.out
  go_wp2_with (fail)
  clear hc0 hf0 hc1 hf1
  with_reducible refine (DC.out _ (HM0.out.at HN.out B0.out)).mono ?_
  rintro q_ w' ⟨rfl, rfl⟩
  go_wp2_with (fail)
  go_ret
  exact ⟨rfl, B0.out⟩
set_option maxHeartbeats 2000000 in
theorem colour_110 (c bk fi se : Int) (c0 : 0 ≤ c) (c1 : c < 256) (bk0 : 0 ≤ bk) (bk1 : bk < 256) (fi0 : 0 ≤ fi) (fi1 : fi < 256) (se0 : 0 ≤ se) (se1 : se < 256) (ys xs tl av : Int) (ys0 : 0 ≤ ys) (ys1 : ys < 256) (xs0 : 0 ≤ xs) (xs1 : xs < 256) (tl0 : 0 ≤ tl) (tl1 : tl < 256) (av0 : 0 ≤ av) (av1 : av < 256) (vr : Value) (V : M) (k r : Int) (k0 : 0 ≤ k) (k1 : k < 8) (r0 : 0 ≤ r) (r1 : r < hgt c) (h5 : bit av 5 = 1) (h6 : bit av 6 = 1) (h2 : bit c 2 = 0) (w : World) (hM0 : Mem w vr V) : Calls Try.prog 94 #[.agg #[.int .u8 c, .int .u8 bk, .int .u8 fi, .int .u8 se], vr, .agg #[.int .u8 ys, .int .u8 xs, .int .u8 tl, .int .u8 av], .int .i64 k, .int .i64 r] w fun q_ w' => q_ = .returned (.int .u8 (paintV V c tl av k r)) ∧ Below w.heap.size w w' := by
  suffices hall : ∀ (n_ : Nat) (W0 : World), n_ ≤ W0.heap.size → Below n_ W0 w → MemB n_ W0 vr V → Calls Try.prog 94 #[.agg #[.int .u8 c, .int .u8 bk, .int .u8 fi, .int .u8 se], vr, .agg #[.int .u8 ys, .int .u8 xs, .int .u8 tl, .int .u8 av], .int .i64 k, .int .i64 r] w fun q_ w' => q_ = .returned (.int .u8 (paintV V c tl av k r)) ∧ Below n_ W0 w' from hall _ _ (Nat.le_refl _) (Below.refl _ _) hM0
  clear hM0
  intro n_ W0 hn hB hM0
  have HN := Lib.hid hn
  have BB := Lib.hid hB
  clear hn hB
  have HM0 := Lib.hid hM0
  clear hM0
  have hgv : hgt c = 8 := by unfold hgt; rw [h2]; rfl
  have e5 : bits .and .u8 av 32 = 32 := by rw [an5 av av0 av1, h5]; rfl
  have e6 : bits .and .u8 av 64 = 64 := by rw [an6 av av0 av1, h6]; rfl
  have e2 : bits .and .u8 c 4 = 0 := by rw [an2 c c0 c1, h2]; rfl
  have e254 := an254 tl tl0 tl1
  rw [hgv] at r1
  obtain ⟨R, hR⟩ : ∃ q_, q_ = 7 - r := ⟨_, rfl⟩
  have R0 : 0 ≤ R := by omega
  have R1 : R < 8 := by omega
  obtain ⟨q8, hq⟩ : ∃ q_, q_ = R / 8 := ⟨_, rfl⟩
  obtain ⟨m8, hm⟩ : ∃ q_, q_ = R % 8 := ⟨_, rfl⟩
  have ev : paintV V c tl av k r = dotV V (tl + q8) (7 - k) m8 := by
    unfold paintV rowV colmV tileV
    rw [hgv, h5, h6, h2, hq, hm, hR]
    rfl
  rw [ev]
  have d1 : (7 - r).tdiv 8 = q8 := by rw [← hR, Int.tdiv_eq_ediv_of_nonneg R0, hq]
  have d2 : (7 - r).tmod 8 = m8 := by rw [← hR, Int.tmod_eq_emod_of_nonneg R0, hm]
  have qb : 0 ≤ q8 ∧ q8 < 2 ∧ 0 ≤ m8 ∧ m8 < 8 := by omega
  have DC := Lib.hid (fun W h => dot_c vr V (tl + q8) (7 - k) m8 (by omega) (by omega) (by omega) (by omega) W h)
  have HG := Lib.hid (fun W => height_c c bk fi se c0 c1 bk0 bk1 fi0 fi1 se0 se1 W)
  rw [hgv] at HG
  generalize dotV V (tl + q8) (7 - k) m8 = D at DC ⊢
  clear ev hgv hR R0 R1 hq hm h5 h6 h2
  go_enter Try.func94, Try.ntmps94
  have Q_ := own2 w (.cells #[.int .u8 c, .int .u8 bk, .int .u8 fi, .int .u8 se] 81) (.cells #[.int .u8 ys, .int .u8 xs, .int .u8 tl, .int .u8 av] 105)
  have B0 := Lib.hid (vian HN.out BB.out Q_)
  have P0 := Lib.hid (show Has ((w.alloc (.cells #[.int .u8 c, .int .u8 bk, .int .u8 fi, .int .u8 se] 81)).alloc (.cells #[.int .u8 ys, .int .u8 xs, .int .u8 tl, .int .u8 av] 105)) w.heap.size #[.int .u8 c, .int .u8 bk, .int .u8 fi, .int .u8 se] by simpa using (Has.new w #[.int .u8 c, .int .u8 bk, .int .u8 fi, .int .u8 se] 81).alloc (.cells #[.int .u8 ys, .int .u8 xs, .int .u8 tl, .int .u8 av] 105))
  have LP := Lib.hid (show n_ ≤ w.heap.size + 0 from Nat.le_add_right_of_le (Nat.le_trans HN.out BB.out.size))
  have Q0 := Lib.hid (show Has ((w.alloc (.cells #[.int .u8 c, .int .u8 bk, .int .u8 fi, .int .u8 se] 81)).alloc (.cells #[.int .u8 ys, .int .u8 xs, .int .u8 tl, .int .u8 av] 105)) (w.heap.size + 1) #[.int .u8 ys, .int .u8 xs, .int .u8 tl, .int .u8 av] by simpa using Has.new (w.alloc (.cells #[.int .u8 c, .int .u8 bk, .int .u8 fi, .int .u8 se] 81)) #[.int .u8 ys, .int .u8 xs, .int .u8 tl, .int .u8 av] 105)
  have LQ := Lib.hid (show n_ ≤ (w.heap.size + 1) from Nat.le_add_right_of_le (Nat.le_trans HN.out BB.out.size))
  have NPQ := Lib.hid (show w.heap.size + 0 ≠ w.heap.size + 1 by omega)
  simp only [Nat.add_zero] at LP NPQ
  clear Q_
  go_upto_region 1 with (fail)
  generalize ((w.alloc (.cells #[.int .u8 c, .int .u8 bk, .int .u8 fi, .int .u8 se] 81)).alloc (.cells #[.int .u8 ys, .int .u8 xs, .int .u8 tl, .int .u8 av] 105)) = u0 at B0 P0 Q0 ⊢
  generalize w.heap.size + 1 = qb at Q0 LQ NPQ ⊢
  generalize w.heap.size = pb at P0 LP NPQ ⊢
  obtain ⟨hc0, hf0⟩ := P0.out.out
  obtain ⟨hc1, hf1⟩ := Q0.out.out
  go_wp2_with (fail)
  clear hc0 hf0 hc1 hf1
  with_reducible refine (HG.out _).mono ?_
  rintro q_ u1 ⟨rfl, hb⟩
  have B1 := Lib.hid (vian HN.out B0.out hb)
  have P1 := Lib.hid (P0.out.below hb)
  have Q1 := Lib.hid (Q0.out.below hb)
  clear hb B0 P0 Q0
  obtain ⟨hc0, hf0⟩ := P1.out.out
  obtain ⟨hc1, hf1⟩ := Q1.out.out
  go_wp2_with (fail)
  clear hc0 hf0 hc1 hf1
  with_reducible refine (DC.out _ (HM0.out.at HN.out B1.out)).mono ?_
  rintro q_ w' ⟨rfl, rfl⟩
  go_wp2_with (fail)
  go_ret
  exact ⟨rfl, B1.out⟩
set_option maxHeartbeats 2000000 in
theorem colour_111 (c bk fi se : Int) (c0 : 0 ≤ c) (c1 : c < 256) (bk0 : 0 ≤ bk) (bk1 : bk < 256) (fi0 : 0 ≤ fi) (fi1 : fi < 256) (se0 : 0 ≤ se) (se1 : se < 256) (ys xs tl av : Int) (ys0 : 0 ≤ ys) (ys1 : ys < 256) (xs0 : 0 ≤ xs) (xs1 : xs < 256) (tl0 : 0 ≤ tl) (tl1 : tl < 256) (av0 : 0 ≤ av) (av1 : av < 256) (vr : Value) (V : M) (k r : Int) (k0 : 0 ≤ k) (k1 : k < 8) (r0 : 0 ≤ r) (r1 : r < hgt c) (h5 : bit av 5 = 1) (h6 : bit av 6 = 1) (h2 : bit c 2 = 1) (w : World) (hM0 : Mem w vr V) : Calls Try.prog 94 #[.agg #[.int .u8 c, .int .u8 bk, .int .u8 fi, .int .u8 se], vr, .agg #[.int .u8 ys, .int .u8 xs, .int .u8 tl, .int .u8 av], .int .i64 k, .int .i64 r] w fun q_ w' => q_ = .returned (.int .u8 (paintV V c tl av k r)) ∧ Below w.heap.size w w' := by
  suffices hall : ∀ (n_ : Nat) (W0 : World), n_ ≤ W0.heap.size → Below n_ W0 w → MemB n_ W0 vr V → Calls Try.prog 94 #[.agg #[.int .u8 c, .int .u8 bk, .int .u8 fi, .int .u8 se], vr, .agg #[.int .u8 ys, .int .u8 xs, .int .u8 tl, .int .u8 av], .int .i64 k, .int .i64 r] w fun q_ w' => q_ = .returned (.int .u8 (paintV V c tl av k r)) ∧ Below n_ W0 w' from hall _ _ (Nat.le_refl _) (Below.refl _ _) hM0
  clear hM0
  intro n_ W0 hn hB hM0
  have HN := Lib.hid hn
  have BB := Lib.hid hB
  clear hn hB
  have HM0 := Lib.hid hM0
  clear hM0
  have hgv : hgt c = 16 := by unfold hgt; rw [h2]; rfl
  have e5 : bits .and .u8 av 32 = 32 := by rw [an5 av av0 av1, h5]; rfl
  have e6 : bits .and .u8 av 64 = 64 := by rw [an6 av av0 av1, h6]; rfl
  have e2 : bits .and .u8 c 4 = 4 := by rw [an2 c c0 c1, h2]; rfl
  have e254 := an254 tl tl0 tl1
  rw [hgv] at r1
  obtain ⟨R, hR⟩ : ∃ q_, q_ = 15 - r := ⟨_, rfl⟩
  have R0 : 0 ≤ R := by omega
  have R1 : R < 16 := by omega
  obtain ⟨q8, hq⟩ : ∃ q_, q_ = R / 8 := ⟨_, rfl⟩
  obtain ⟨m8, hm⟩ : ∃ q_, q_ = R % 8 := ⟨_, rfl⟩
  have ev : paintV V c tl av k r = dotV V (tl / 2 * 2 + q8) (7 - k) m8 := by
    unfold paintV rowV colmV tileV
    rw [hgv, h5, h6, h2, hq, hm, hR]
    rfl
  rw [ev]
  have d1 : (15 - r).tdiv 8 = q8 := by rw [← hR, Int.tdiv_eq_ediv_of_nonneg R0, hq]
  have d2 : (15 - r).tmod 8 = m8 := by rw [← hR, Int.tmod_eq_emod_of_nonneg R0, hm]
  have qb : 0 ≤ q8 ∧ q8 < 2 ∧ 0 ≤ m8 ∧ m8 < 8 := by omega
  have DC := Lib.hid (fun W h => dot_c vr V (tl / 2 * 2 + q8) (7 - k) m8 (by omega) (by omega) (by omega) (by omega) W h)
  have HG := Lib.hid (fun W => height_c c bk fi se c0 c1 bk0 bk1 fi0 fi1 se0 se1 W)
  rw [hgv] at HG
  generalize dotV V (tl / 2 * 2 + q8) (7 - k) m8 = D at DC ⊢
  clear ev hgv hR R0 R1 hq hm h5 h6 h2
  go_enter Try.func94, Try.ntmps94
  have Q_ := own2 w (.cells #[.int .u8 c, .int .u8 bk, .int .u8 fi, .int .u8 se] 81) (.cells #[.int .u8 ys, .int .u8 xs, .int .u8 tl, .int .u8 av] 105)
  have B0 := Lib.hid (vian HN.out BB.out Q_)
  have P0 := Lib.hid (show Has ((w.alloc (.cells #[.int .u8 c, .int .u8 bk, .int .u8 fi, .int .u8 se] 81)).alloc (.cells #[.int .u8 ys, .int .u8 xs, .int .u8 tl, .int .u8 av] 105)) w.heap.size #[.int .u8 c, .int .u8 bk, .int .u8 fi, .int .u8 se] by simpa using (Has.new w #[.int .u8 c, .int .u8 bk, .int .u8 fi, .int .u8 se] 81).alloc (.cells #[.int .u8 ys, .int .u8 xs, .int .u8 tl, .int .u8 av] 105))
  have LP := Lib.hid (show n_ ≤ w.heap.size + 0 from Nat.le_add_right_of_le (Nat.le_trans HN.out BB.out.size))
  have Q0 := Lib.hid (show Has ((w.alloc (.cells #[.int .u8 c, .int .u8 bk, .int .u8 fi, .int .u8 se] 81)).alloc (.cells #[.int .u8 ys, .int .u8 xs, .int .u8 tl, .int .u8 av] 105)) (w.heap.size + 1) #[.int .u8 ys, .int .u8 xs, .int .u8 tl, .int .u8 av] by simpa using Has.new (w.alloc (.cells #[.int .u8 c, .int .u8 bk, .int .u8 fi, .int .u8 se] 81)) #[.int .u8 ys, .int .u8 xs, .int .u8 tl, .int .u8 av] 105)
  have LQ := Lib.hid (show n_ ≤ (w.heap.size + 1) from Nat.le_add_right_of_le (Nat.le_trans HN.out BB.out.size))
  have NPQ := Lib.hid (show w.heap.size + 0 ≠ w.heap.size + 1 by omega)
  simp only [Nat.add_zero] at LP NPQ
  clear Q_
  go_upto_region 1 with (fail)
  generalize ((w.alloc (.cells #[.int .u8 c, .int .u8 bk, .int .u8 fi, .int .u8 se] 81)).alloc (.cells #[.int .u8 ys, .int .u8 xs, .int .u8 tl, .int .u8 av] 105)) = u0 at B0 P0 Q0 ⊢
  generalize w.heap.size + 1 = qb at Q0 LQ NPQ ⊢
  generalize w.heap.size = pb at P0 LP NPQ ⊢
  obtain ⟨hc0, hf0⟩ := P0.out.out
  obtain ⟨hc1, hf1⟩ := Q0.out.out
  go_wp2_with (fail)
  clear hc0 hf0 hc1 hf1
  with_reducible refine (HG.out _).mono ?_
  rintro q_ u1 ⟨rfl, hb⟩
  have B1 := Lib.hid (vian HN.out B0.out hb)
  have P1 := Lib.hid (P0.out.below hb)
  have Q1 := Lib.hid (Q0.out.below hb)
  clear hb B0 P0 Q0
  obtain ⟨hc0, hf0⟩ := P1.out.out
  obtain ⟨hc1, hf1⟩ := Q1.out.out
  go_wp2_with (fail)
  clear hc0 hf0 hc1 hf1
  with_reducible refine (DC.out _ (HM0.out.at HN.out B1.out)).mono ?_
  rintro q_ w' ⟨rfl, rfl⟩
  go_wp2_with (fail)
  go_ret
  exact ⟨rfl, B1.out⟩
theorem colour_c (c bk fi se : Int) (c0 : 0 ≤ c) (c1 : c < 256) (bk0 : 0 ≤ bk) (bk1 : bk < 256) (fi0 : 0 ≤ fi) (fi1 : fi < 256) (se0 : 0 ≤ se) (se1 : se < 256) (ys xs tl av : Int) (ys0 : 0 ≤ ys) (ys1 : ys < 256) (xs0 : 0 ≤ xs) (xs1 : xs < 256) (tl0 : 0 ≤ tl) (tl1 : tl < 256) (av0 : 0 ≤ av) (av1 : av < 256) (vr : Value) (V : M) (k r : Int) (k0 : 0 ≤ k) (k1 : k < 8) (r0 : 0 ≤ r) (r1 : r < hgt c) (w : World) (hM : Mem w vr V) : Calls Try.prog 94 #[.agg #[.int .u8 c, .int .u8 bk, .int .u8 fi, .int .u8 se], vr, .agg #[.int .u8 ys, .int .u8 xs, .int .u8 tl, .int .u8 av], .int .i64 k, .int .i64 r] w fun q_ w' => q_ = .returned (.int .u8 (paintV V c tl av k r)) ∧ Below w.heap.size w w' := by
  rcases bit_bd av 5 with h5 | h5 <;> rcases bit_bd av 6 with h6 | h6 <;> rcases bit_bd c 2 with h2 | h2
  · exact colour_000 c bk fi se c0 c1 bk0 bk1 fi0 fi1 se0 se1 ys xs tl av ys0 ys1 xs0 xs1 tl0 tl1 av0 av1 vr V k r k0 k1 r0 r1 h5 h6 h2 w hM
  · exact colour_001 c bk fi se c0 c1 bk0 bk1 fi0 fi1 se0 se1 ys xs tl av ys0 ys1 xs0 xs1 tl0 tl1 av0 av1 vr V k r k0 k1 r0 r1 h5 h6 h2 w hM
  · exact colour_010 c bk fi se c0 c1 bk0 bk1 fi0 fi1 se0 se1 ys xs tl av ys0 ys1 xs0 xs1 tl0 tl1 av0 av1 vr V k r k0 k1 r0 r1 h5 h6 h2 w hM
  · exact colour_011 c bk fi se c0 c1 bk0 bk1 fi0 fi1 se0 se1 ys xs tl av ys0 ys1 xs0 xs1 tl0 tl1 av0 av1 vr V k r k0 k1 r0 r1 h5 h6 h2 w hM
  · exact colour_100 c bk fi se c0 c1 bk0 bk1 fi0 fi1 se0 se1 ys xs tl av ys0 ys1 xs0 xs1 tl0 tl1 av0 av1 vr V k r k0 k1 r0 r1 h5 h6 h2 w hM
  · exact colour_101 c bk fi se c0 c1 bk0 bk1 fi0 fi1 se0 se1 ys xs tl av ys0 ys1 xs0 xs1 tl0 tl1 av0 av1 vr V k r k0 k1 r0 r1 h5 h6 h2 w hM
  · exact colour_110 c bk fi se c0 c1 bk0 bk1 fi0 fi1 se0 se1 ys xs tl av ys0 ys1 xs0 xs1 tl0 tl1 av0 av1 vr V k r k0 k1 r0 r1 h5 h6 h2 w hM
  · exact colour_111 c bk fi se c0 c1 bk0 bk1 fi0 fi1 se0 se1 ys xs tl av ys0 ys1 xs0 xs1 tl0 tl1 av0 av1 vr V k r k0 k1 r0 r1 h5 h6 h2 w hM
end Go.Proofs.Ytpfbodmadmneiaa
