/-
  The walk through SpritesTurns: for every memory, look, sprite and place.
-/
import Derived.Test.YtiekojnhkemjlaaOpn
import Derived.Deep.Cut
import Derived.BigQuiet
import Derived.WalkSmall
namespace Go.Proofs.Ytiekojnhkemjlaa
open Go.ChangeShapes Go.WideShapes Go.ChangeAt Go.RowKit
set_option linter.unusedVariables false
set_option linter.unusedSimpArgs false
set_option maxRecDepth 100000
theorem x64_5 (a : Int) (h1 : 0 ≤ a) (h2 : a < 256) : bit (bits .xor .u8 a 64) 5 = bit a 5 := byte_all (P := fun a => bit (bits .xor .u8 a 64) 5 = bit a 5) (by decide +kernel) a h1 h2
theorem x64_6 (a : Int) (h1 : 0 ≤ a) (h2 : a < 256) : bit (bits .xor .u8 a 64) 6 = 1 - bit a 6 := byte_all (P := fun a => bit (bits .xor .u8 a 64) 6 = 1 - bit a 6) (by decide +kernel) a h1 h2
theorem x64_bd (a : Int) (h1 : 0 ≤ a) (h2 : a < 256) : 0 ≤ bits .xor .u8 a 64 ∧ bits .xor .u8 a 64 < 256 := byte_all (P := fun a => 0 ≤ bits .xor .u8 a 64 ∧ bits .xor .u8 a 64 < 256) (by decide +kernel) a h1 h2
theorem x32_5 (a : Int) (h1 : 0 ≤ a) (h2 : a < 256) : bit (bits .xor .u8 a 32) 5 = 1 - bit a 5 := byte_all (P := fun a => bit (bits .xor .u8 a 32) 5 = 1 - bit a 5) (by decide +kernel) a h1 h2
theorem x32_6 (a : Int) (h1 : 0 ≤ a) (h2 : a < 256) : bit (bits .xor .u8 a 32) 6 = bit a 6 := byte_all (P := fun a => bit (bits .xor .u8 a 32) 6 = bit a 6) (by decide +kernel) a h1 h2
theorem x32_bd (a : Int) (h1 : 0 ≤ a) (h2 : a < 256) : 0 ≤ bits .xor .u8 a 32 ∧ bits .xor .u8 a 32 < 256 := byte_all (P := fun a => 0 ≤ bits .xor .u8 a 32 ∧ bits .xor .u8 a 32 < 256) (by decide +kernel) a h1 h2
theorem see_lit (G : M) (ys xs tl av c j i x line : Int) (j0 : 0 ≤ j) (j1 : j < 8) (i0 : 0 ≤ i) (i1 : i < hgt c) (ex : x = xs - 8 + j) (el : line = ys - 16 + i) : seeV G (litM ys xs tl av) c 0 x line = paintV G c tl av j i := by
  subst ex el
  have e0 : litM ys xs tl av (4 * (0 : Int).toNat) = ys := rfl
  have e1 : litM ys xs tl av (4 * (0 : Int).toNat + 1) = xs := rfl
  have e2 : litM ys xs tl av (4 * (0 : Int).toNat + 2) = tl := rfl
  have e3 : litM ys xs tl av (4 * (0 : Int).toNat + 3) = av := rfl
  unfold seeV
  rw [if_pos ⟨by omega, by omega⟩]
  unfold colV inV
  rw [e0, e1, e2, e3, if_pos ⟨by rw [Bool.and_eq_true, decide_eq_true_eq, decide_eq_true_eq]; omega, by omega, by omega⟩]
  rw [show xs - 8 + j - (xs - 8) = j by omega, show ys - 16 + i - (ys - 16) = i by omega]
theorem row_64 (c a r : Int) (a0 : 0 ≤ a) (a1 : a < 256) : rowV c (bits .xor .u8 a 64) (hgt c - 1 - r) = rowV c a r := by
  unfold rowV
  rw [x64_6 a a0 a1]
  rcases bit_bd a 6 with h | h <;> rw [h] <;> simp
  omega
theorem row_32 (c a r : Int) (a0 : 0 ≤ a) (a1 : a < 256) : rowV c (bits .xor .u8 a 32) r = rowV c a r := by
  unfold rowV
  rw [x32_6 a a0 a1]
theorem col_64 (a k : Int) (a0 : 0 ≤ a) (a1 : a < 256) : colmV (bits .xor .u8 a 64) k = colmV a k := by
  unfold colmV
  rw [x64_5 a a0 a1]
theorem col_32 (a k : Int) (a0 : 0 ≤ a) (a1 : a < 256) : colmV (bits .xor .u8 a 32) (7 - k) = colmV a k := by
  unfold colmV
  rw [x32_5 a a0 a1]
  rcases bit_bd a 5 with h | h <;> rw [h] <;> simp
  omega
theorem paint_v (G : M) (c t a k r : Int) (a0 : 0 ≤ a) (a1 : a < 256) : paintV G c t (bits .xor .u8 a 64) k (hgt c - 1 - r) = paintV G c t a k r := by
  unfold paintV
  rw [row_64 c a r a0 a1, col_64 a k a0 a1]
theorem paint_h (G : M) (c t a k r : Int) (a0 : 0 ≤ a) (a1 : a < 256) : paintV G c t (bits .xor .u8 a 32) (7 - k) r = paintV G c t a k r := by
  unfold paintV
  rw [row_32 c a r a0 a1, col_32 a k a0 a1]
set_option maxHeartbeats 2000000 in
theorem turns_long0 (c bk fi se : Int) (c0 : 0 ≤ c) (c1 : c < 256) (bk0 : 0 ≤ bk) (bk1 : bk < 256) (fi0 : 0 ≤ fi) (fi1 : fi < 256) (se0 : 0 ≤ se) (se1 : se < 256) (a : Option Addr) (n cp : Nat) (ys : Int) (ys0 : 0 ≤ ys) (ys1 : ys < 256) (xs : Int) (xs0 : 0 ≤ xs) (xs1 : xs < 256) (tl : Int) (tl0 : 0 ≤ tl) (tl1 : tl < 256) (av : Int) (av0 : 0 ≤ av) (av1 : av < 256) (ro : Int) (ro0 : 0 ≤ ro) (ro1 : ro < 256) (co : Int) (co0 : 0 ≤ co) (co1 : co < 256)  (h : 3000 < n) (w : World) : Calls Try.prog 7 #[.slice a n cp, .agg #[.int .u8 c, .int .u8 bk, .int .u8 fi, .int .u8 se], .int .u8 ys, .int .u8 xs, .int .u8 tl, .int .u8 av, .int .u8 ro, .int .u8 co] w fun q_ w' => q_ = .returned (.bool true) ∧ Below w.heap.size w w' := by
  suffices hall : ∀ (n_ : Nat) (W0 : World), n_ ≤ W0.heap.size → Below n_ W0 w → Calls Try.prog 7 #[.slice a n cp, .agg #[.int .u8 c, .int .u8 bk, .int .u8 fi, .int .u8 se], .int .u8 ys, .int .u8 xs, .int .u8 tl, .int .u8 av, .int .u8 ro, .int .u8 co] w fun q_ w' => q_ = .returned (.bool true) ∧ Below n_ W0 w' from hall _ _ (Nat.le_refl _) (Below.refl _ _)
  intro n_ W0 hn hB
  have HN := Lib.hid hn
  have BB := Lib.hid hB
  clear hn hB
  have AW := Lib.hid awake_c
  have hnot : ∀ (x : Bool) (w : World), (Op.unary .not (.bool x)).run Try.prog w = .ok (.bool (!x)) w := fun _ _ => rfl
  have hI : (3000 : Int) < n := by omega
  have hd : decide ((3000 : Int) < (n : Int)) = true := decide_eq_true hI
  go_enter Try.func7, Try.ntmps7
  have Q_ := own1 w (.cells #[.int .u8 c, .int .u8 bk, .int .u8 fi, .int .u8 se] 24)
  have B0 := Lib.hid (vian HN.out BB.out Q_)
  have P0 := Lib.hid (show Has (w.alloc (.cells #[.int .u8 c, .int .u8 bk, .int .u8 fi, .int .u8 se] 24)) w.heap.size #[.int .u8 c, .int .u8 bk, .int .u8 fi, .int .u8 se] by simpa using Has.new w #[.int .u8 c, .int .u8 bk, .int .u8 fi, .int .u8 se] 24)
  have LP := Lib.hid (show n_ ≤ w.heap.size + 0 from Nat.le_add_right_of_le (Nat.le_trans HN.out BB.out.size))
  simp only [Nat.add_zero] at LP
  clear Q_
  go_upto_region 1 with (fail)
  generalize (w.alloc (.cells #[.int .u8 c, .int .u8 bk, .int .u8 fi, .int .u8 se] 24)) = u0 at B0 P0 ⊢
  generalize w.heap.size = pb at P0 LP  ⊢
  go_wp2_with (fail)
  with_reducible refine (AW.out _).mono ?_
  rintro q_ u1 ⟨rfl, hb⟩
  have B1 := Lib.hid (vian HN.out B0.out hb)
  have P1 := Lib.hid (P0.out.below hb)
  clear hb B0 P0
  go_wp2_with (fail)
  with_reducible refine (AW.out _).mono ?_
  rintro q_ u2 ⟨rfl, hb⟩
  have B2 := Lib.hid (vian HN.out B1.out hb)
  have P2 := Lib.hid (P1.out.below hb)
  clear hb B1 P1
  go_wp2_with (fail)
  all_goals exact bodyPost_ret (v := .bool true) (by simp [results, Try.results7, go_sem]) rfl ⟨rfl, B2.out⟩
set_option maxHeartbeats 8000000 in
theorem turns_0 (c bk fi se : Int) (c0 : 0 ≤ c) (c1 : c < 256) (bk0 : 0 ≤ bk) (bk1 : bk < 256) (fi0 : 0 ≤ fi) (fi1 : fi < 256) (se0 : 0 ≤ se) (se1 : se < 256) (a : Option Addr) (n cp : Nat) (F : M) (ys : Int) (ys0 : 0 ≤ ys) (ys1 : ys < 256) (xs : Int) (xs0 : 0 ≤ xs) (xs1 : xs < 256) (tl : Int) (tl0 : 0 ≤ tl) (tl1 : tl < 256) (av : Int) (av0 : 0 ≤ av) (av1 : av < 256) (ro : Int) (ro0 : 0 ≤ ro) (ro1 : ro < 256) (co : Int) (co0 : 0 ≤ co) (co1 : co < 256) (h0 : n ≤ 3000) (hb2 : bit c 2 = 0) (w : World) (hM0 : Mem w (.slice a n cp) F) : Calls Try.prog 7 #[.slice a n cp, .agg #[.int .u8 c, .int .u8 bk, .int .u8 fi, .int .u8 se], .int .u8 ys, .int .u8 xs, .int .u8 tl, .int .u8 av, .int .u8 ro, .int .u8 co] w fun q_ w' => q_ = .returned (.bool true) ∧ Below w.heap.size w w' := by
  suffices hall : ∀ (n_ : Nat) (W0 : World), n_ ≤ W0.heap.size → Below n_ W0 w → MemB n_ W0 (.slice a n cp) F → Calls Try.prog 7 #[.slice a n cp, .agg #[.int .u8 c, .int .u8 bk, .int .u8 fi, .int .u8 se], .int .u8 ys, .int .u8 xs, .int .u8 tl, .int .u8 av, .int .u8 ro, .int .u8 co] w fun q_ w' => q_ = .returned (.bool true) ∧ Below n_ W0 w' from hall _ _ (Nat.le_refl _) (Below.refl _ _) hM0
  clear hM0
  intro n_ W0 hn hB hM0
  have HN := Lib.hid hn
  have BB := Lib.hid hB
  clear hn hB
  have HM0 := Lib.hid hM0
  clear hM0
  have AW := Lib.hid awake_c
  have hnot : ∀ (x : Bool) (w : World), (Op.unary .not (.bool x)).run Try.prog w = .ok (.bool (!x)) w := fun _ _ => rfl
  have hI0 : ¬ (3000 : Int) < n := by omega
  have hd0 : decide ((3000 : Int) < (n : Int)) = false := decide_eq_false hI0
  have e2 : bits .and .u8 c 4 = 0 := by rw [an2 c c0 c1, hb2]; rfl
  have hgv : hgt c = 8 := by unfold hgt; rw [hb2]; rfl
  obtain ⟨i, hi⟩ : ∃ q_, q_ = ro % 8 := ⟨_, rfl⟩
  obtain ⟨j, hj⟩ : ∃ q_, q_ = co % 8 := ⟨_, rfl⟩
  have ei : ro.tmod 8 = i := by rw [Int.tmod_eq_emod_of_nonneg ro0, hi]
  have ej : co.tmod 8 = j := by rw [Int.tmod_eq_emod_of_nonneg co0, hj]
  have ib : 0 ≤ i ∧ i < 8 := by omega
  have jb : 0 ≤ j ∧ j < 8 := by omega
  have X1 := x64_bd av av0 av1
  have X2 := x32_bd av av0 av1
  clear hi hj hb2
  go_enter Try.func7, Try.ntmps7
  have Q_ := own1 w (.cells #[.int .u8 c, .int .u8 bk, .int .u8 fi, .int .u8 se] 24)
  have B0 := Lib.hid (vian HN.out BB.out Q_)
  have P0 := Lib.hid (show Has (w.alloc (.cells #[.int .u8 c, .int .u8 bk, .int .u8 fi, .int .u8 se] 24)) w.heap.size #[.int .u8 c, .int .u8 bk, .int .u8 fi, .int .u8 se] by simpa using Has.new w #[.int .u8 c, .int .u8 bk, .int .u8 fi, .int .u8 se] 24)
  have LP := Lib.hid (show n_ ≤ w.heap.size + 0 from Nat.le_add_right_of_le (Nat.le_trans HN.out BB.out.size))
  simp only [Nat.add_zero] at LP
  clear Q_
  go_upto_region 1 with (fail)
  generalize (w.alloc (.cells #[.int .u8 c, .int .u8 bk, .int .u8 fi, .int .u8 se] 24)) = u0 at B0 P0 ⊢
  generalize w.heap.size = pb at P0 LP  ⊢
  go_wp2_with (fail)
  with_reducible refine (AW.out _).mono ?_
  rintro q_ u1 ⟨rfl, hb⟩
  have B1 := Lib.hid (vian HN.out B0.out hb)
  have P1 := Lib.hid (P0.out.below hb)
  clear hb B0 P0
  obtain ⟨hc0, hf0⟩ := P1.out.out
  go_wp2_with (fail)
  clear hc0 hf0
  with_reducible refine (filled_m a n cp F _ (HM0.out.at HN.out B1.out)).mono ?_
  rintro q_ u2 ⟨sv, rfl, hm0, hb⟩
  have hb3 := vian HN.out B1.out hb
  have P2 := Lib.hid (P1.out.below hb)
  obtain ⟨n3, V3, hn3, b3, m0, gP, z3, q3⟩ : ∃ (n3 : Nat) (V3 : World), n3 ≤ V3.heap.size ∧ Below n3 V3 u2 ∧ MemB n3 V3 sv (filledV F n) ∧ pb < n3 ∧ (∀ w', Below n3 V3 w' → Below n_ W0 w') ∧ n_ ≤ n3 := ⟨u2.heap.size, u2, Nat.le_refl _, Below.refl _ _, hm0, P2.out.1, fun w' h => vian HN.out hb3 h, Nat.le_trans HN.out hb3.size⟩
  clear HN hb hb3 HM0 hm0 B1 P1
  have HN := Lib.hid hn3
  have B2 := Lib.hid b3
  have ZF := Lib.hid z3
  have QF := Lib.hid q3
  have HM0 := Lib.hid m0
  have GP := Lib.hid gP
  clear LP
  clear hn3 b3 z3 q3 m0 gP
  obtain ⟨G, hG⟩ : ∃ G, G = filledV F n := ⟨_, rfl⟩
  rw [← hG] at HM0
  clear hG
  have pv := paint_v G c tl av j i av0 av1
  have ph := paint_h G c tl av j i av0 av1
  rw [hgv] at pv
  have pb4 := paintV_bd G c tl av j i
  have D1 := Lib.hid (fun W o h1 h2 => dotp_c c bk fi se c0 c1 bk0 bk1 fi0 fi1 se0 se1 sv o G (litM ys xs tl av) 0 (xs - 8 + j) (ys - 16 + i) (by decide) (by decide) (by omega) (by omega) (by omega) (by omega) W h1 h2)
  have D2 := Lib.hid (fun W o h1 h2 => dotp_c c bk fi se c0 c1 bk0 bk1 fi0 fi1 se0 se1 sv o G (litM ys xs tl (bits .xor .u8 av 64)) 0 (xs - 8 + j) (ys - 16 + 8 - 1 - i) (by decide) (by decide) (by omega) (by omega) (by omega) (by omega) W h1 h2)
  have D3 := Lib.hid (fun W o h1 h2 => dotp_c c bk fi se c0 c1 bk0 bk1 fi0 fi1 se0 se1 sv o G (litM ys xs tl (bits .xor .u8 av 32)) 0 (xs - 8 + 7 - j) (ys - 16 + i) (by decide) (by decide) (by omega) (by omega) (by omega) (by omega) W h1 h2)
  rw [see_lit G ys xs tl av c j i (xs - 8 + j) (ys - 16 + i) jb.1 jb.2 ib.1 (by rw [hgv]; exact ib.2) rfl rfl] at D1
  rw [see_lit G ys xs tl (bits .xor .u8 av 64) c j (8 - 1 - i) (xs - 8 + j) (ys - 16 + 8 - 1 - i) jb.1 jb.2 (by omega) (by rw [hgv]; omega) rfl (by omega), pv] at D2
  rw [see_lit G ys xs tl (bits .xor .u8 av 32) c (7 - j) i (xs - 8 + 7 - j) (ys - 16 + i) (by omega) (by omega) ib.1 (by rw [hgv]; exact ib.2) (by omega) rfl, ph] at D3
  obtain ⟨d, hd⟩ : ∃ q_, q_ = paintV G c tl av j i := ⟨_, rfl⟩
  rw [← hd] at D1 D2 D3 pb4
  obtain ⟨z, hz⟩ : ∃ q_, q_ = decide (d ≠ 0) := ⟨_, rfl⟩
  rw [← hz] at D1 D2 D3
  have hz2 : (d != 0) = z := by rw [hz]; by_cases h : d = 0 <;> simp [h]
  have OK1 := Lib.hid (lit_ok ⟨ys0, ys1⟩ ⟨xs0, xs1⟩ ⟨tl0, tl1⟩ ⟨av0, av1⟩)
  have OK2 := Lib.hid (lit_ok ⟨ys0, ys1⟩ ⟨xs0, xs1⟩ ⟨tl0, tl1⟩ X1)
  have OK3 := Lib.hid (lit_ok ⟨ys0, ys1⟩ ⟨xs0, xs1⟩ ⟨tl0, tl1⟩ X2)
  clear pv ph hd hz hgv
  have d4 := pb4.2
  clear pb4
  obtain ⟨hc0, hf0⟩ := P2.out.out
  go_upto_region 4 with (fail)
  go_wp2_with (refine store_g r27 (Has.new u2 #[.int .u8 0, .int .u8 0, .int .u8 0, .int .u8 0] 27) rfl #[.int .u8 c, .int .u8 bk, .int .u8 fi, .int .u8 se] rfl (four_one _ _ _ _) rfl _ _ rfl rfl rfl ?_)
  intro u3 hP hk
  clear hc0 hf0
  have B3 := Lib.hid (keep_new HN.out B2.out _ hk)
  have NPQ := Lib.hid (Nat.ne_of_lt P2.out.1)
  have P3 := Lib.hid (hk.has NPQ.out (P2.out.below (own1 _ _)))
  have Q3 := Lib.hid hP
  have LQ := Lib.hid (Nat.le_trans HN.out B2.out.size)
  generalize u2.heap.size = qb at Q3 LQ NPQ ⊢
  clear hk hP B2 P2
  try simp only [Act.put, List.setIfInBounds_toArray, List.set_cons_zero, List.set_cons_succ]
  have Q_ := own1 u3 (.cells #[.int .u8 ys, .int .u8 xs, .int .u8 tl, .int .u8 (av)] 5)
  have B4 := Lib.hid (vian HN.out B3.out Q_)
  have P4 := Lib.hid (P3.out.below Q_)
  have Q4 := Lib.hid (Q3.out.below Q_)
  have X4 := Lib.hid (Has.new u3 #[.int .u8 ys, .int .u8 xs, .int .u8 tl, .int .u8 (av)] 5)
  have LX := Lib.hid (Nat.le_trans HN.out B3.out.size)
  have NPX := Lib.hid (Nat.ne_of_lt P3.out.1)
  have NQX := Lib.hid (Nat.ne_of_lt Q3.out.1)
  clear Q_
  obtain ⟨hc0, hf0⟩ := P3.out.out
  obtain ⟨hc1, hf1⟩ := Q3.out.out
  go_wp2_with (fail)
  clear hc0 hf0 hc1 hf1
  generalize u3.alloc (.cells #[.int .u8 ys, .int .u8 xs, .int .u8 tl, .int .u8 (av)] 5) = u4 at B4 P4 Q4 X4 ⊢
  generalize u3.heap.size = xb at X4 LX NPX NQX ⊢
  clear B3 P3 Q3
  with_reducible refine (D1.out _ _ (HM0.out.at HN.out B4.out) (mem_lit X4.out OK1.out)).mono ?_
  rintro q_ u5 ⟨rfl, hb⟩
  have B5 := Lib.hid (vian HN.out B4.out hb)
  have P5 := Lib.hid (P4.out.below hb)
  have Q5 := Lib.hid (Q4.out.below hb)
  have X5 := Lib.hid (X4.out.below hb)
  clear hb B4 P4 Q4 X4
  have Q_ := own1 u5 (.cells #[.int .u8 ys, .int .u8 xs, .int .u8 tl, .int .u8 (bits .xor .u8 av 64)] 5)
  have B6 := Lib.hid (vian HN.out B5.out Q_)
  have P6 := Lib.hid (P5.out.below Q_)
  have Q6 := Lib.hid (Q5.out.below Q_)
  have X6 := Lib.hid (X5.out.below Q_)
  have Y6 := Lib.hid (Has.new u5 #[.int .u8 ys, .int .u8 xs, .int .u8 tl, .int .u8 (bits .xor .u8 av 64)] 5)
  have LY := Lib.hid (Nat.le_trans HN.out B5.out.size)
  have NPY := Lib.hid (Nat.ne_of_lt P5.out.1)
  have NQY := Lib.hid (Nat.ne_of_lt Q5.out.1)
  have NXY := Lib.hid (Nat.ne_of_lt X5.out.1)
  clear Q_
  obtain ⟨hc0, hf0⟩ := P5.out.out
  obtain ⟨hc1, hf1⟩ := Q5.out.out
  go_wp2_with (fail)
  clear hc0 hf0 hc1 hf1
  generalize u5.alloc (.cells #[.int .u8 ys, .int .u8 xs, .int .u8 tl, .int .u8 (bits .xor .u8 av 64)] 5) = u6 at B6 P6 Q6 X6 Y6 ⊢
  generalize u5.heap.size = yb at Y6 LY NPY NQY NXY ⊢
  clear B5 P5 Q5 X5
  with_reducible refine (D2.out _ _ (HM0.out.at HN.out B6.out) (mem_lit Y6.out OK2.out)).mono ?_
  rintro q_ u7 ⟨rfl, hb⟩
  have B7 := Lib.hid (vian HN.out B6.out hb)
  have P7 := Lib.hid (P6.out.below hb)
  have Q7 := Lib.hid (Q6.out.below hb)
  have X7 := Lib.hid (X6.out.below hb)
  have Y7 := Lib.hid (Y6.out.below hb)
  clear hb B6 P6 Q6 X6 Y6
  have Q_ := own1 u7 (.cells #[.int .u8 ys, .int .u8 xs, .int .u8 tl, .int .u8 (bits .xor .u8 av 32)] 5)
  have B8 := Lib.hid (vian HN.out B7.out Q_)
  have P8 := Lib.hid (P7.out.below Q_)
  have Q8 := Lib.hid (Q7.out.below Q_)
  have X8 := Lib.hid (X7.out.below Q_)
  have Y8 := Lib.hid (Y7.out.below Q_)
  have Z8 := Lib.hid (Has.new u7 #[.int .u8 ys, .int .u8 xs, .int .u8 tl, .int .u8 (bits .xor .u8 av 32)] 5)
  have LZ := Lib.hid (Nat.le_trans HN.out B7.out.size)
  have NPZ := Lib.hid (Nat.ne_of_lt P7.out.1)
  have NQZ := Lib.hid (Nat.ne_of_lt Q7.out.1)
  have NXZ := Lib.hid (Nat.ne_of_lt X7.out.1)
  have NYZ := Lib.hid (Nat.ne_of_lt Y7.out.1)
  clear Q_
  obtain ⟨hc0, hf0⟩ := P7.out.out
  obtain ⟨hc1, hf1⟩ := Q7.out.out
  go_wp2_with (fail)
  clear hc0 hf0 hc1 hf1
  generalize u7.alloc (.cells #[.int .u8 ys, .int .u8 xs, .int .u8 tl, .int .u8 (bits .xor .u8 av 32)] 5) = u8 at B8 P8 Q8 X8 Y8 Z8 ⊢
  generalize u7.heap.size = zb at Z8 LZ NPZ NQZ NXZ NYZ ⊢
  clear B7 P7 Q7 X7 Y7
  with_reducible refine (D3.out _ _ (HM0.out.at HN.out B8.out) (mem_lit Z8.out OK3.out)).mono ?_
  rintro q_ u9 ⟨rfl, hb⟩
  have B9 := Lib.hid (vian HN.out B8.out hb)
  have P9 := Lib.hid (P8.out.below hb)
  have Q9 := Lib.hid (Q8.out.below hb)
  have X9 := Lib.hid (X8.out.below hb)
  have Y9 := Lib.hid (Y8.out.below hb)
  have Z9 := Lib.hid (Z8.out.below hb)
  clear hb B8 P8 Q8 X8 Y8 Z8
  clear X1 X2
  cases z
  · skip
    go_wp2_with (fail)
    all_goals exact bodyPost_ret (v := .bool true) (by simp [results, Try.results7, go_sem]) rfl ⟨rfl, ZF.out _ B9.out⟩
  · skip
    go_wp2_with (fail)
    all_goals exact bodyPost_ret (v := .bool true) (by simp [results, Try.results7, go_sem]) rfl ⟨rfl, ZF.out _ B9.out⟩
set_option maxHeartbeats 8000000 in
theorem turns_1 (c bk fi se : Int) (c0 : 0 ≤ c) (c1 : c < 256) (bk0 : 0 ≤ bk) (bk1 : bk < 256) (fi0 : 0 ≤ fi) (fi1 : fi < 256) (se0 : 0 ≤ se) (se1 : se < 256) (a : Option Addr) (n cp : Nat) (F : M) (ys : Int) (ys0 : 0 ≤ ys) (ys1 : ys < 256) (xs : Int) (xs0 : 0 ≤ xs) (xs1 : xs < 256) (tl : Int) (tl0 : 0 ≤ tl) (tl1 : tl < 256) (av : Int) (av0 : 0 ≤ av) (av1 : av < 256) (ro : Int) (ro0 : 0 ≤ ro) (ro1 : ro < 256) (co : Int) (co0 : 0 ≤ co) (co1 : co < 256) (h0 : n ≤ 3000) (hb2 : bit c 2 = 1) (w : World) (hM0 : Mem w (.slice a n cp) F) : Calls Try.prog 7 #[.slice a n cp, .agg #[.int .u8 c, .int .u8 bk, .int .u8 fi, .int .u8 se], .int .u8 ys, .int .u8 xs, .int .u8 tl, .int .u8 av, .int .u8 ro, .int .u8 co] w fun q_ w' => q_ = .returned (.bool true) ∧ Below w.heap.size w w' := by
  suffices hall : ∀ (n_ : Nat) (W0 : World), n_ ≤ W0.heap.size → Below n_ W0 w → MemB n_ W0 (.slice a n cp) F → Calls Try.prog 7 #[.slice a n cp, .agg #[.int .u8 c, .int .u8 bk, .int .u8 fi, .int .u8 se], .int .u8 ys, .int .u8 xs, .int .u8 tl, .int .u8 av, .int .u8 ro, .int .u8 co] w fun q_ w' => q_ = .returned (.bool true) ∧ Below n_ W0 w' from hall _ _ (Nat.le_refl _) (Below.refl _ _) hM0
  clear hM0
  intro n_ W0 hn hB hM0
  have HN := Lib.hid hn
  have BB := Lib.hid hB
  clear hn hB
  have HM0 := Lib.hid hM0
  clear hM0
  have AW := Lib.hid awake_c
  have hnot : ∀ (x : Bool) (w : World), (Op.unary .not (.bool x)).run Try.prog w = .ok (.bool (!x)) w := fun _ _ => rfl
  have hI0 : ¬ (3000 : Int) < n := by omega
  have hd0 : decide ((3000 : Int) < (n : Int)) = false := decide_eq_false hI0
  have e2 : bits .and .u8 c 4 = 4 := by rw [an2 c c0 c1, hb2]; rfl
  have hgv : hgt c = 16 := by unfold hgt; rw [hb2]; rfl
  obtain ⟨i, hi⟩ : ∃ q_, q_ = ro % 16 := ⟨_, rfl⟩
  obtain ⟨j, hj⟩ : ∃ q_, q_ = co % 8 := ⟨_, rfl⟩
  have ei : ro.tmod 16 = i := by rw [Int.tmod_eq_emod_of_nonneg ro0, hi]
  have ej : co.tmod 8 = j := by rw [Int.tmod_eq_emod_of_nonneg co0, hj]
  have ib : 0 ≤ i ∧ i < 16 := by omega
  have jb : 0 ≤ j ∧ j < 8 := by omega
  have X1 := x64_bd av av0 av1
  have X2 := x32_bd av av0 av1
  clear hi hj hb2
  go_enter Try.func7, Try.ntmps7
  have Q_ := own1 w (.cells #[.int .u8 c, .int .u8 bk, .int .u8 fi, .int .u8 se] 24)
  have B0 := Lib.hid (vian HN.out BB.out Q_)
  have P0 := Lib.hid (show Has (w.alloc (.cells #[.int .u8 c, .int .u8 bk, .int .u8 fi, .int .u8 se] 24)) w.heap.size #[.int .u8 c, .int .u8 bk, .int .u8 fi, .int .u8 se] by simpa using Has.new w #[.int .u8 c, .int .u8 bk, .int .u8 fi, .int .u8 se] 24)
  have LP := Lib.hid (show n_ ≤ w.heap.size + 0 from Nat.le_add_right_of_le (Nat.le_trans HN.out BB.out.size))
  simp only [Nat.add_zero] at LP
  clear Q_
  go_upto_region 1 with (fail)
  generalize (w.alloc (.cells #[.int .u8 c, .int .u8 bk, .int .u8 fi, .int .u8 se] 24)) = u0 at B0 P0 ⊢
  generalize w.heap.size = pb at P0 LP  ⊢
  go_wp2_with (fail)
  with_reducible refine (AW.out _).mono ?_
  rintro q_ u1 ⟨rfl, hb⟩
  have B1 := Lib.hid (vian HN.out B0.out hb)
  have P1 := Lib.hid (P0.out.below hb)
  clear hb B0 P0
  obtain ⟨hc0, hf0⟩ := P1.out.out
  go_wp2_with (fail)
  clear hc0 hf0
  with_reducible refine (filled_m a n cp F _ (HM0.out.at HN.out B1.out)).mono ?_
  rintro q_ u2 ⟨sv, rfl, hm0, hb⟩
  have hb3 := vian HN.out B1.out hb
  have P2 := Lib.hid (P1.out.below hb)
  obtain ⟨n3, V3, hn3, b3, m0, gP, z3, q3⟩ : ∃ (n3 : Nat) (V3 : World), n3 ≤ V3.heap.size ∧ Below n3 V3 u2 ∧ MemB n3 V3 sv (filledV F n) ∧ pb < n3 ∧ (∀ w', Below n3 V3 w' → Below n_ W0 w') ∧ n_ ≤ n3 := ⟨u2.heap.size, u2, Nat.le_refl _, Below.refl _ _, hm0, P2.out.1, fun w' h => vian HN.out hb3 h, Nat.le_trans HN.out hb3.size⟩
  clear HN hb hb3 HM0 hm0 B1 P1
  have HN := Lib.hid hn3
  have B2 := Lib.hid b3
  have ZF := Lib.hid z3
  have QF := Lib.hid q3
  have HM0 := Lib.hid m0
  have GP := Lib.hid gP
  clear LP
  clear hn3 b3 z3 q3 m0 gP
  obtain ⟨G, hG⟩ : ∃ G, G = filledV F n := ⟨_, rfl⟩
  rw [← hG] at HM0
  clear hG
  have pv := paint_v G c tl av j i av0 av1
  have ph := paint_h G c tl av j i av0 av1
  rw [hgv] at pv
  have pb4 := paintV_bd G c tl av j i
  have D1 := Lib.hid (fun W o h1 h2 => dotp_c c bk fi se c0 c1 bk0 bk1 fi0 fi1 se0 se1 sv o G (litM ys xs tl av) 0 (xs - 8 + j) (ys - 16 + i) (by decide) (by decide) (by omega) (by omega) (by omega) (by omega) W h1 h2)
  have D2 := Lib.hid (fun W o h1 h2 => dotp_c c bk fi se c0 c1 bk0 bk1 fi0 fi1 se0 se1 sv o G (litM ys xs tl (bits .xor .u8 av 64)) 0 (xs - 8 + j) (ys - 1 - i) (by decide) (by decide) (by omega) (by omega) (by omega) (by omega) W h1 h2)
  have D3 := Lib.hid (fun W o h1 h2 => dotp_c c bk fi se c0 c1 bk0 bk1 fi0 fi1 se0 se1 sv o G (litM ys xs tl (bits .xor .u8 av 32)) 0 (xs - 8 + 7 - j) (ys - 16 + i) (by decide) (by decide) (by omega) (by omega) (by omega) (by omega) W h1 h2)
  rw [see_lit G ys xs tl av c j i (xs - 8 + j) (ys - 16 + i) jb.1 jb.2 ib.1 (by rw [hgv]; exact ib.2) rfl rfl] at D1
  rw [see_lit G ys xs tl (bits .xor .u8 av 64) c j (16 - 1 - i) (xs - 8 + j) (ys - 1 - i) jb.1 jb.2 (by omega) (by rw [hgv]; omega) rfl (by omega), pv] at D2
  rw [see_lit G ys xs tl (bits .xor .u8 av 32) c (7 - j) i (xs - 8 + 7 - j) (ys - 16 + i) (by omega) (by omega) ib.1 (by rw [hgv]; exact ib.2) (by omega) rfl, ph] at D3
  obtain ⟨d, hd⟩ : ∃ q_, q_ = paintV G c tl av j i := ⟨_, rfl⟩
  rw [← hd] at D1 D2 D3 pb4
  obtain ⟨z, hz⟩ : ∃ q_, q_ = decide (d ≠ 0) := ⟨_, rfl⟩
  rw [← hz] at D1 D2 D3
  have hz2 : (d != 0) = z := by rw [hz]; by_cases h : d = 0 <;> simp [h]
  have OK1 := Lib.hid (lit_ok ⟨ys0, ys1⟩ ⟨xs0, xs1⟩ ⟨tl0, tl1⟩ ⟨av0, av1⟩)
  have OK2 := Lib.hid (lit_ok ⟨ys0, ys1⟩ ⟨xs0, xs1⟩ ⟨tl0, tl1⟩ X1)
  have OK3 := Lib.hid (lit_ok ⟨ys0, ys1⟩ ⟨xs0, xs1⟩ ⟨tl0, tl1⟩ X2)
  clear pv ph hd hz hgv
  have d4 := pb4.2
  clear pb4
  obtain ⟨hc0, hf0⟩ := P2.out.out
  go_upto_region 4 with (fail)
  go_wp2_with (refine store_g r27 (Has.new u2 #[.int .u8 0, .int .u8 0, .int .u8 0, .int .u8 0] 27) rfl #[.int .u8 c, .int .u8 bk, .int .u8 fi, .int .u8 se] rfl (four_one _ _ _ _) rfl _ _ rfl rfl rfl ?_)
  intro u3 hP hk
  clear hc0 hf0
  have B3 := Lib.hid (keep_new HN.out B2.out _ hk)
  have NPQ := Lib.hid (Nat.ne_of_lt P2.out.1)
  have P3 := Lib.hid (hk.has NPQ.out (P2.out.below (own1 _ _)))
  have Q3 := Lib.hid hP
  have LQ := Lib.hid (Nat.le_trans HN.out B2.out.size)
  generalize u2.heap.size = qb at Q3 LQ NPQ ⊢
  clear hk hP B2 P2
  try simp only [Act.put, List.setIfInBounds_toArray, List.set_cons_zero, List.set_cons_succ]
  have Q_ := own1 u3 (.cells #[.int .u8 ys, .int .u8 xs, .int .u8 tl, .int .u8 (av)] 5)
  have B4 := Lib.hid (vian HN.out B3.out Q_)
  have P4 := Lib.hid (P3.out.below Q_)
  have Q4 := Lib.hid (Q3.out.below Q_)
  have X4 := Lib.hid (Has.new u3 #[.int .u8 ys, .int .u8 xs, .int .u8 tl, .int .u8 (av)] 5)
  have LX := Lib.hid (Nat.le_trans HN.out B3.out.size)
  have NPX := Lib.hid (Nat.ne_of_lt P3.out.1)
  have NQX := Lib.hid (Nat.ne_of_lt Q3.out.1)
  clear Q_
  obtain ⟨hc0, hf0⟩ := P3.out.out
  obtain ⟨hc1, hf1⟩ := Q3.out.out
  go_wp2_with (fail)
  clear hc0 hf0 hc1 hf1
  generalize u3.alloc (.cells #[.int .u8 ys, .int .u8 xs, .int .u8 tl, .int .u8 (av)] 5) = u4 at B4 P4 Q4 X4 ⊢
  generalize u3.heap.size = xb at X4 LX NPX NQX ⊢
  clear B3 P3 Q3
  with_reducible refine (D1.out _ _ (HM0.out.at HN.out B4.out) (mem_lit X4.out OK1.out)).mono ?_
  rintro q_ u5 ⟨rfl, hb⟩
  have B5 := Lib.hid (vian HN.out B4.out hb)
  have P5 := Lib.hid (P4.out.below hb)
  have Q5 := Lib.hid (Q4.out.below hb)
  have X5 := Lib.hid (X4.out.below hb)
  clear hb B4 P4 Q4 X4
  have Q_ := own1 u5 (.cells #[.int .u8 ys, .int .u8 xs, .int .u8 tl, .int .u8 (bits .xor .u8 av 64)] 5)
  have B6 := Lib.hid (vian HN.out B5.out Q_)
  have P6 := Lib.hid (P5.out.below Q_)
  have Q6 := Lib.hid (Q5.out.below Q_)
  have X6 := Lib.hid (X5.out.below Q_)
  have Y6 := Lib.hid (Has.new u5 #[.int .u8 ys, .int .u8 xs, .int .u8 tl, .int .u8 (bits .xor .u8 av 64)] 5)
  have LY := Lib.hid (Nat.le_trans HN.out B5.out.size)
  have NPY := Lib.hid (Nat.ne_of_lt P5.out.1)
  have NQY := Lib.hid (Nat.ne_of_lt Q5.out.1)
  have NXY := Lib.hid (Nat.ne_of_lt X5.out.1)
  clear Q_
  obtain ⟨hc0, hf0⟩ := P5.out.out
  obtain ⟨hc1, hf1⟩ := Q5.out.out
  go_wp2_with (fail)
  clear hc0 hf0 hc1 hf1
  generalize u5.alloc (.cells #[.int .u8 ys, .int .u8 xs, .int .u8 tl, .int .u8 (bits .xor .u8 av 64)] 5) = u6 at B6 P6 Q6 X6 Y6 ⊢
  generalize u5.heap.size = yb at Y6 LY NPY NQY NXY ⊢
  clear B5 P5 Q5 X5
  with_reducible refine (D2.out _ _ (HM0.out.at HN.out B6.out) (mem_lit Y6.out OK2.out)).mono ?_
  rintro q_ u7 ⟨rfl, hb⟩
  have B7 := Lib.hid (vian HN.out B6.out hb)
  have P7 := Lib.hid (P6.out.below hb)
  have Q7 := Lib.hid (Q6.out.below hb)
  have X7 := Lib.hid (X6.out.below hb)
  have Y7 := Lib.hid (Y6.out.below hb)
  clear hb B6 P6 Q6 X6 Y6
  have Q_ := own1 u7 (.cells #[.int .u8 ys, .int .u8 xs, .int .u8 tl, .int .u8 (bits .xor .u8 av 32)] 5)
  have B8 := Lib.hid (vian HN.out B7.out Q_)
  have P8 := Lib.hid (P7.out.below Q_)
  have Q8 := Lib.hid (Q7.out.below Q_)
  have X8 := Lib.hid (X7.out.below Q_)
  have Y8 := Lib.hid (Y7.out.below Q_)
  have Z8 := Lib.hid (Has.new u7 #[.int .u8 ys, .int .u8 xs, .int .u8 tl, .int .u8 (bits .xor .u8 av 32)] 5)
  have LZ := Lib.hid (Nat.le_trans HN.out B7.out.size)
  have NPZ := Lib.hid (Nat.ne_of_lt P7.out.1)
  have NQZ := Lib.hid (Nat.ne_of_lt Q7.out.1)
  have NXZ := Lib.hid (Nat.ne_of_lt X7.out.1)
  have NYZ := Lib.hid (Nat.ne_of_lt Y7.out.1)
  clear Q_
  obtain ⟨hc0, hf0⟩ := P7.out.out
  obtain ⟨hc1, hf1⟩ := Q7.out.out
  go_wp2_with (fail)
  clear hc0 hf0 hc1 hf1
  generalize u7.alloc (.cells #[.int .u8 ys, .int .u8 xs, .int .u8 tl, .int .u8 (bits .xor .u8 av 32)] 5) = u8 at B8 P8 Q8 X8 Y8 Z8 ⊢
  generalize u7.heap.size = zb at Z8 LZ NPZ NQZ NXZ NYZ ⊢
  clear B7 P7 Q7 X7 Y7
  with_reducible refine (D3.out _ _ (HM0.out.at HN.out B8.out) (mem_lit Z8.out OK3.out)).mono ?_
  rintro q_ u9 ⟨rfl, hb⟩
  have B9 := Lib.hid (vian HN.out B8.out hb)
  have P9 := Lib.hid (P8.out.below hb)
  have Q9 := Lib.hid (Q8.out.below hb)
  have X9 := Lib.hid (X8.out.below hb)
  have Y9 := Lib.hid (Y8.out.below hb)
  have Z9 := Lib.hid (Z8.out.below hb)
  clear hb B8 P8 Q8 X8 Y8 Z8
  clear X1 X2
  cases z
  · skip
    go_wp2_with (fail)
    all_goals exact bodyPost_ret (v := .bool true) (by simp [results, Try.results7, go_sem]) rfl ⟨rfl, ZF.out _ B9.out⟩
  · skip
    go_wp2_with (fail)
    all_goals exact bodyPost_ret (v := .bool true) (by simp [results, Try.results7, go_sem]) rfl ⟨rfl, ZF.out _ B9.out⟩
theorem turns_walk (c bk fi se : Int) (c0 : 0 ≤ c) (c1 : c < 256) (bk0 : 0 ≤ bk) (bk1 : bk < 256) (fi0 : 0 ≤ fi) (fi1 : fi < 256) (se0 : 0 ≤ se) (se1 : se < 256) (vb : Value) (ys : Int) (ys0 : 0 ≤ ys) (ys1 : ys < 256) (xs : Int) (xs0 : 0 ≤ xs) (xs1 : xs < 256) (tl : Int) (tl0 : 0 ≤ tl) (tl1 : tl < 256) (av : Int) (av0 : 0 ≤ av) (av1 : av < 256) (ro : Int) (ro0 : 0 ≤ ro) (ro1 : ro < 256) (co : Int) (co0 : 0 ≤ co) (co1 : co < 256) (w : World) (hinb : MemIn w vb) : Calls Try.prog 7 #[vb, .agg #[.int .u8 c, .int .u8 bk, .int .u8 fi, .int .u8 se], .int .u8 ys, .int .u8 xs, .int .u8 tl, .int .u8 av, .int .u8 ro, .int .u8 co] w fun q_ w' => q_ = .returned (.bool true) ∧ Below w.heap.size w w' := by
  obtain ⟨a, n, cp, rfl, hzb, hmb⟩ := hinb
  by_cases g0 : 3000 < n
  · exact turns_long0 c bk fi se c0 c1 bk0 bk1 fi0 fi1 se0 se1 a n cp ys ys0 ys1 xs xs0 xs1 tl tl0 tl1 av av0 av1 ro ro0 ro1 co co0 co1  g0 w
  obtain ⟨F, hMb⟩ := hmb (by omega)
  rcases bit_bd c 2 with hb | hb
  · exact turns_0 c bk fi se c0 c1 bk0 bk1 fi0 fi1 se0 se1 a n cp F ys ys0 ys1 xs xs0 xs1 tl tl0 tl1 av av0 av1 ro ro0 ro1 co co0 co1 (by omega) hb w hMb
  · exact turns_1 c bk fi se c0 c1 bk0 bk1 fi0 fi1 se0 se1 a n cp F ys ys0 ys1 xs xs0 xs1 tl tl0 tl1 av av0 av1 ro ro0 ro1 co co0 co1 (by omega) hb w hMb
end Go.Proofs.Ytiekojnhkemjlaa
