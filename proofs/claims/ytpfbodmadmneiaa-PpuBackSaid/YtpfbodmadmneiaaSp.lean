/-
 The small functions of a sprite and of a look: for every world; no condition but that each number fits.
-/
import Derived.Test.YtpfbodmadmneiaaTz
import Derived.Test.YtpfbodmadmneiaaFn
import Derived.Test.YtpfbodmadmneiaaSpr
import Derived.Deep.Cut
import Derived.BigQuiet
import Derived.WalkSmall
namespace Go.Proofs.Ytpfbodmadmneiaa
open Go.ChangeShapes Go.WideShapes Go.ChangeAt Go.RowKit
set_option linter.unusedVariables false
set_option linter.unusedSimpArgs false
set_option maxRecDepth 100000
theorem bit1_c (x : Int) (h0 : 0 ≤ x) (h1 : x < 256) (w : World) : Calls Try.prog 63 #[.int .u8 x, .int .i64 1] w fun q_ w' => q_ = .returned (.int .i64 (bit x 1)) ∧ w = w' := bit_c x 1 h0 h1 (by omega) w
theorem bit2_c (x : Int) (h0 : 0 ≤ x) (h1 : x < 256) (w : World) : Calls Try.prog 63 #[.int .u8 x, .int .i64 2] w fun q_ w' => q_ = .returned (.int .i64 (bit x 2)) ∧ w = w' := bit_c x 2 h0 h1 (by omega) w
theorem bit4_c (x : Int) (h0 : 0 ≤ x) (h1 : x < 256) (w : World) : Calls Try.prog 63 #[.int .u8 x, .int .i64 4] w fun q_ w' => q_ = .returned (.int .i64 (bit x 4)) ∧ w = w' := bit_c x 4 h0 h1 (by omega) w
theorem bit5_c (x : Int) (h0 : 0 ≤ x) (h1 : x < 256) (w : World) : Calls Try.prog 63 #[.int .u8 x, .int .i64 5] w fun q_ w' => q_ = .returned (.int .i64 (bit x 5)) ∧ w = w' := bit_c x 5 h0 h1 (by omega) w
theorem bit6_c (x : Int) (h0 : 0 ≤ x) (h1 : x < 256) (w : World) : Calls Try.prog 63 #[.int .u8 x, .int .i64 6] w fun q_ w' => q_ = .returned (.int .i64 (bit x 6)) ∧ w = w' := bit_c x 6 h0 h1 (by omega) w
theorem bit7_c (x : Int) (h0 : 0 ≤ x) (h1 : x < 256) (w : World) : Calls Try.prog 63 #[.int .u8 x, .int .i64 7] w fun q_ w' => q_ = .returned (.int .i64 (bit x 7)) ∧ w = w' := bit_c x 7 h0 h1 (by omega) w
set_option maxHeartbeats 2000000 in
theorem top_c (ys xs tl av : Int) (ys0 : 0 ≤ ys) (ys1 : ys < 256) (xs0 : 0 ≤ xs) (xs1 : xs < 256) (tl0 : 0 ≤ tl) (tl1 : tl < 256) (av0 : 0 ≤ av) (av1 : av < 256) (w : World) : Calls Try.prog 95 #[.agg #[.int .u8 ys, .int .u8 xs, .int .u8 tl, .int .u8 av]] w fun q_ w' => q_ = .returned (.int .i64 (ys - 16)) ∧ Below w.heap.size w w' := by
 suffices hall : ∀ (n_ : Nat) (W0 : World), n_ ≤ W0.heap.size → Below n_ W0 w → Calls Try.prog 95 #[.agg #[.int .u8 ys, .int .u8 xs, .int .u8 tl, .int .u8 av]] w fun q_ w' => q_ = .returned (.int .i64 (ys - 16)) ∧ Below n_ W0 w' from hall _ _ (Nat.le_refl _) (Below.refl _ _)
 intro n_ W0 hn hB
 have HN := Lib.hid hn
 have BB := Lib.hid hB
 clear hn hB
 go_enter Try.func95, Try.ntmps95
 have Q_ := own1 w (.cells #[.int .u8 ys, .int .u8 xs, .int .u8 tl, .int .u8 av] 105)
 have B0 := Lib.hid (vian HN.out BB.out Q_)
 have P0 := Lib.hid (show Has (w.alloc (.cells #[.int .u8 ys, .int .u8 xs, .int .u8 tl, .int .u8 av] 105)) w.heap.size #[.int .u8 ys, .int .u8 xs, .int .u8 tl, .int .u8 av] by simpa using Has.new w #[.int .u8 ys, .int .u8 xs, .int .u8 tl, .int .u8 av] 105)
 have LP := Lib.hid (show n_ ≤ w.heap.size + 0 from Nat.le_add_right_of_le (Nat.le_trans HN.out BB.out.size))
 simp only [Nat.add_zero] at LP
 clear Q_
 go_upto_region 1 with (fail)
 generalize (w.alloc (.cells #[.int .u8 ys, .int .u8 xs, .int .u8 tl, .int .u8 av] 105)) = u0 at B0 P0 ⊢
 generalize w.heap.size = pb at P0 LP  ⊢
 obtain ⟨hc0, hf0⟩ := P0.out.out
 go_wp2_with (fail)
 clear hc0 hf0
 go_ret
 exact ⟨rfl, B0.out⟩
set_option maxHeartbeats 2000000 in
theorem left_c (ys xs tl av : Int) (ys0 : 0 ≤ ys) (ys1 : ys < 256) (xs0 : 0 ≤ xs) (xs1 : xs < 256) (tl0 : 0 ≤ tl) (tl1 : tl < 256) (av0 : 0 ≤ av) (av1 : av < 256) (w : World) : Calls Try.prog 82 #[.agg #[.int .u8 ys, .int .u8 xs, .int .u8 tl, .int .u8 av]] w fun q_ w' => q_ = .returned (.int .i64 (xs - 8)) ∧ Below w.heap.size w w' := by
 suffices hall : ∀ (n_ : Nat) (W0 : World), n_ ≤ W0.heap.size → Below n_ W0 w → Calls Try.prog 82 #[.agg #[.int .u8 ys, .int .u8 xs, .int .u8 tl, .int .u8 av]] w fun q_ w' => q_ = .returned (.int .i64 (xs - 8)) ∧ Below n_ W0 w' from hall _ _ (Nat.le_refl _) (Below.refl _ _)
 intro n_ W0 hn hB
 have HN := Lib.hid hn
 have BB := Lib.hid hB
 clear hn hB
 go_enter Try.func82, Try.ntmps82
 have Q_ := own1 w (.cells #[.int .u8 ys, .int .u8 xs, .int .u8 tl, .int .u8 av] 105)
 have B0 := Lib.hid (vian HN.out BB.out Q_)
 have P0 := Lib.hid (show Has (w.alloc (.cells #[.int .u8 ys, .int .u8 xs, .int .u8 tl, .int .u8 av] 105)) w.heap.size #[.int .u8 ys, .int .u8 xs, .int .u8 tl, .int .u8 av] by simpa using Has.new w #[.int .u8 ys, .int .u8 xs, .int .u8 tl, .int .u8 av] 105)
 have LP := Lib.hid (show n_ ≤ w.heap.size + 0 from Nat.le_add_right_of_le (Nat.le_trans HN.out BB.out.size))
 simp only [Nat.add_zero] at LP
 clear Q_
 go_upto_region 1 with (fail)
 generalize (w.alloc (.cells #[.int .u8 ys, .int .u8 xs, .int .u8 tl, .int .u8 av] 105)) = u0 at B0 P0 ⊢
 generalize w.heap.size = pb at P0 LP  ⊢
 obtain ⟨hc0, hf0⟩ := P0.out.out
 go_wp2_with (fail)
 clear hc0 hf0
 go_ret
 exact ⟨rfl, B0.out⟩
set_option maxHeartbeats 2000000 in
theorem height_c (c bk fi se : Int) (c0 : 0 ≤ c) (c1 : c < 256) (bk0 : 0 ≤ bk) (bk1 : bk < 256) (fi0 : 0 ≤ fi) (fi1 : fi < 256) (se0 : 0 ≤ se) (se1 : se < 256) (w : World) : Calls Try.prog 98 #[.agg #[.int .u8 c, .int .u8 bk, .int .u8 fi, .int .u8 se]] w fun q_ w' => q_ = .returned (.int .i64 (hgt c)) ∧ Below w.heap.size w w' := by
 suffices hall : ∀ (n_ : Nat) (W0 : World), n_ ≤ W0.heap.size → Below n_ W0 w → Calls Try.prog 98 #[.agg #[.int .u8 c, .int .u8 bk, .int .u8 fi, .int .u8 se]] w fun q_ w' => q_ = .returned (.int .i64 (hgt c)) ∧ Below n_ W0 w' from hall _ _ (Nat.le_refl _) (Below.refl _ _)
 intro n_ W0 hn hB
 have HN := Lib.hid hn
 have BB := Lib.hid hB
 clear hn hB
 have ea := an2 c c0 c1
 unfold hgt
 have hb := bit_bd c 2
 have HQ : ∃ q, q = bit c 2 := ⟨_, rfl⟩
 obtain ⟨q, hq⟩ := HQ
 rw [← hq] at ea hb ⊢
 clear hq
 rcases hb with rfl | rfl
 ·skip
  rw [if_neg (by decide)]
  rw [show (4 : Int) * 0 = 0 by decide] at ea
  go_enter Try.func98, Try.ntmps98
  have Q_ := own1 w (.cells #[.int .u8 c, .int .u8 bk, .int .u8 fi, .int .u8 se] 81)
  have B0 := Lib.hid (vian HN.out BB.out Q_)
  have P0 := Lib.hid (show Has (w.alloc (.cells #[.int .u8 c, .int .u8 bk, .int .u8 fi, .int .u8 se] 81)) w.heap.size #[.int .u8 c, .int .u8 bk, .int .u8 fi, .int .u8 se] by simpa using Has.new w #[.int .u8 c, .int .u8 bk, .int .u8 fi, .int .u8 se] 81)
  have LP := Lib.hid (show n_ ≤ w.heap.size + 0 from Nat.le_add_right_of_le (Nat.le_trans HN.out BB.out.size))
  simp only [Nat.add_zero] at LP
  clear Q_
  go_upto_region 1 with (fail)
  generalize (w.alloc (.cells #[.int .u8 c, .int .u8 bk, .int .u8 fi, .int .u8 se] 81)) = u0 at B0 P0 ⊢
  generalize w.heap.size = pb at P0 LP  ⊢
  obtain ⟨hc0, hf0⟩ := P0.out.out
  go_wp2_with (fail)
  clear hc0 hf0
  go_ret
  exact ⟨rfl, B0.out⟩
 ·skip
  rw [if_pos rfl]
  rw [show (4 : Int) * 1 = 4 by decide] at ea
  go_enter Try.func98, Try.ntmps98
  have Q_ := own1 w (.cells #[.int .u8 c, .int .u8 bk, .int .u8 fi, .int .u8 se] 81)
  have B0 := Lib.hid (vian HN.out BB.out Q_)
  have P0 := Lib.hid (show Has (w.alloc (.cells #[.int .u8 c, .int .u8 bk, .int .u8 fi, .int .u8 se] 81)) w.heap.size #[.int .u8 c, .int .u8 bk, .int .u8 fi, .int .u8 se] by simpa using Has.new w #[.int .u8 c, .int .u8 bk, .int .u8 fi, .int .u8 se] 81)
  have LP := Lib.hid (show n_ ≤ w.heap.size + 0 from Nat.le_add_right_of_le (Nat.le_trans HN.out BB.out.size))
  simp only [Nat.add_zero] at LP
  clear Q_
  go_upto_region 1 with (fail)
  generalize (w.alloc (.cells #[.int .u8 c, .int .u8 bk, .int .u8 fi, .int .u8 se] 81)) = u0 at B0 P0 ⊢
  generalize w.heap.size = pb at P0 LP  ⊢
  obtain ⟨hc0, hf0⟩ := P0.out.out
  go_wp2_with (fail)
  clear hc0 hf0
  go_ret
  exact ⟨rfl, B0.out⟩
set_option maxHeartbeats 2000000 in
theorem rheight_c (c bk fi se : Int) (c0 : 0 ≤ c) (c1 : c < 256) (bk0 : 0 ≤ bk) (bk1 : bk < 256) (fi0 : 0 ≤ fi) (fi1 : fi < 256) (se0 : 0 ≤ se) (se1 : se < 256) (w : World) : Calls Try.prog 73 #[.agg #[.int .u8 c, .int .u8 bk, .int .u8 fi, .int .u8 se]] w fun q_ w' => q_ = .returned (.int .i64 (hgt c)) ∧ Below w.heap.size w w' := by
 suffices hall : ∀ (n_ : Nat) (W0 : World), n_ ≤ W0.heap.size → Below n_ W0 w → Calls Try.prog 73 #[.agg #[.int .u8 c, .int .u8 bk, .int .u8 fi, .int .u8 se]] w fun q_ w' => q_ = .returned (.int .i64 (hgt c)) ∧ Below n_ W0 w' from hall _ _ (Nat.le_refl _) (Below.refl _ _)
 intro n_ W0 hn hB
 have HN := Lib.hid hn
 have BB := Lib.hid hB
 clear hn hB
 have T1 := Lib.hid (fun W => bit2_c c c0 c1 W)
 unfold hgt
 have hb := bit_bd c 2
 have HQ : ∃ q, q = bit c 2 := ⟨_, rfl⟩
 obtain ⟨q, hq⟩ := HQ
 rw [← hq] at T1 hb ⊢
 clear hq
 rcases hb with rfl | rfl
 ·skip
  rw [if_neg (by decide)]
  go_enter Try.func73, Try.ntmps73
  have Q_ := own1 w (.cells #[.int .u8 c, .int .u8 bk, .int .u8 fi, .int .u8 se] 74)
  have B0 := Lib.hid (vian HN.out BB.out Q_)
  have P0 := Lib.hid (show Has (w.alloc (.cells #[.int .u8 c, .int .u8 bk, .int .u8 fi, .int .u8 se] 74)) w.heap.size #[.int .u8 c, .int .u8 bk, .int .u8 fi, .int .u8 se] by simpa using Has.new w #[.int .u8 c, .int .u8 bk, .int .u8 fi, .int .u8 se] 74)
  have LP := Lib.hid (show n_ ≤ w.heap.size + 0 from Nat.le_add_right_of_le (Nat.le_trans HN.out BB.out.size))
  simp only [Nat.add_zero] at LP
  clear Q_
  go_upto_region 1 with (fail)
  generalize (w.alloc (.cells #[.int .u8 c, .int .u8 bk, .int .u8 fi, .int .u8 se] 74)) = u0 at B0 P0 ⊢
  generalize w.heap.size = pb at P0 LP  ⊢
  obtain ⟨hc0, hf0⟩ := P0.out.out
  go_wp2_with (fail)
  clear hc0 hf0
  with_reducible refine (T1.out _).mono ?_
  rintro q_ w' ⟨rfl, rfl⟩
  go_wp2_with (fail)
  go_ret
  exact ⟨rfl, B0.out⟩
 ·skip
  rw [if_pos rfl]
  go_enter Try.func73, Try.ntmps73
  have Q_ := own1 w (.cells #[.int .u8 c, .int .u8 bk, .int .u8 fi, .int .u8 se] 74)
  have B0 := Lib.hid (vian HN.out BB.out Q_)
  have P0 := Lib.hid (show Has (w.alloc (.cells #[.int .u8 c, .int .u8 bk, .int .u8 fi, .int .u8 se] 74)) w.heap.size #[.int .u8 c, .int .u8 bk, .int .u8 fi, .int .u8 se] by simpa using Has.new w #[.int .u8 c, .int .u8 bk, .int .u8 fi, .int .u8 se] 74)
  have LP := Lib.hid (show n_ ≤ w.heap.size + 0 from Nat.le_add_right_of_le (Nat.le_trans HN.out BB.out.size))
  simp only [Nat.add_zero] at LP
  clear Q_
  go_upto_region 1 with (fail)
  generalize (w.alloc (.cells #[.int .u8 c, .int .u8 bk, .int .u8 fi, .int .u8 se] 74)) = u0 at B0 P0 ⊢
  generalize w.heap.size = pb at P0 LP  ⊢
  obtain ⟨hc0, hf0⟩ := P0.out.out
  go_wp2_with (fail)
  clear hc0 hf0
  with_reducible refine (T1.out _).mono ?_
  rintro q_ w' ⟨rfl, rfl⟩
  go_wp2_with (fail)
  go_ret
  exact ⟨rfl, B0.out⟩
set_option maxHeartbeats 2000000 in
theorem inl_c (c bk fi se : Int) (c0 : 0 ≤ c) (c1 : c < 256) (bk0 : 0 ≤ bk) (bk1 : bk < 256) (fi0 : 0 ≤ fi) (fi1 : fi < 256) (se0 : 0 ≤ se) (se1 : se < 256) (ys xs tl av : Int) (ys0 : 0 ≤ ys) (ys1 : ys < 256) (xs0 : 0 ≤ xs) (xs1 : xs < 256) (tl0 : 0 ≤ tl) (tl1 : tl < 256) (av0 : 0 ≤ av) (av1 : av < 256) (line : Int) (line0 : -9223372036854775808 ≤ line) (line1 : line ≤ 9223372036854775807) (w : World) : Calls Try.prog 93 #[.agg #[.int .u8 c, .int .u8 bk, .int .u8 fi, .int .u8 se], .agg #[.int .u8 ys, .int .u8 xs, .int .u8 tl, .int .u8 av], .int .i64 line] w fun q_ w' => q_ = .returned (.bool (decide (ys - 16 ≤ line) && decide (line < ys - 16 + hgt c))) ∧ Below w.heap.size w w' := by
 suffices hall : ∀ (n_ : Nat) (W0 : World), n_ ≤ W0.heap.size → Below n_ W0 w → Calls Try.prog 93 #[.agg #[.int .u8 c, .int .u8 bk, .int .u8 fi, .int .u8 se], .agg #[.int .u8 ys, .int .u8 xs, .int .u8 tl, .int .u8 av], .int .i64 line] w fun q_ w' => q_ = .returned (.bool (decide (ys - 16 ≤ line) && decide (line < ys - 16 + hgt c))) ∧ Below n_ W0 w' from hall _ _ (Nat.le_refl _) (Below.refl _ _)
 intro n_ W0 hn hB
 have HN := Lib.hid hn
 have BB := Lib.hid hB
 clear hn hB
 have TP := Lib.hid (fun W => top_c ys xs tl av ys0 ys1 xs0 xs1 tl0 tl1 av0 av1 W)
 have HG := Lib.hid (fun W => height_c c bk fi se c0 c1 bk0 bk1 fi0 fi1 se0 se1 W)
 have hh := hgt_is c
 obtain ⟨g, hg⟩ : ∃ q_, q_ = hgt c := ⟨_, rfl⟩
 rw [← hg] at HG hh ⊢
 clear hg
 have ew : IntKind.i64.wrap (ys - 16 + g) = ys - 16 + g := by rw [IntKind.wrap_i64]; omega
 by_cases h1 : ys - 16 ≤ line
 ·skip
  have d1 : decide (ys - 16 ≤ line) = true := decide_eq_true h1
  rw [d1]
  go_enter Try.func93, Try.ntmps93
  have Q_ := own2 w (.cells #[.int .u8 c, .int .u8 bk, .int .u8 fi, .int .u8 se] 81) (.cells #[.int .u8 ys, .int .u8 xs, .int .u8 tl, .int .u8 av] 105)
  have B0 := Lib.hid (vian HN.out BB.out Q_)
  have P0 := Lib.hid (show Has ((w.alloc (.cells #[.int .u8 c, .int .u8 bk, .int .u8 fi, .int .u8 se] 81)).alloc (.cells #[.int .u8 ys, .int .u8 xs, .int .u8 tl, .int .u8 av] 105)) w.heap.size #[.int .u8 c, .int .u8 bk, .int .u8 fi, .int .u8 se] by simpa using (Has.new w #[.int .u8 c, .int .u8 bk, .int .u8 fi, .int .u8 se] 81).alloc (.cells #[.int .u8 ys, .int .u8 xs, .int .u8 tl, .int .u8 av] 105))
  have LP := Lib.hid (show n_ ≤ w.heap.size + 0 from Nat.le_add_right_of_le (Nat.le_trans HN.out BB.out.size))
  have Q0 := Lib.hid (show Has ((w.alloc (.cells #[.int .u8 c, .int .u8 bk, .int .u8 fi, .int .u8 se] 81)).alloc (.cells #[.int .u8 ys, .int .u8 xs, .int .u8 tl, .int .u8 av] 105)) (w.heap.size + 1) #[.int .u8 ys, .int .u8 xs, .int .u8 tl, .int .u8 av] by simpa using Has.new (w.alloc (.cells #[.int .u8 c, .int .u8 bk, .int .u8 fi, .int .u8 se] 81)) #[.int .u8 ys, .int .u8 xs, .int .u8 tl, .int .u8 av] 105)
  have LQ := Lib.hid (show n_ ≤ (w.heap.size + 1) from Nat.le_add_right_of_le (Nat.le_trans HN.out BB.out.size))
  have NPQ := Lib.hid (show w.heap.size + 0 ≠ w.heap.size + 1 by omega)
  simp only [Nat.add_zero] at LP NPQ
  clear Q_
  go_upto_region 1 with (fail)
  generalize ((w.alloc (.cells #[.int .u8 c, .int .u8 bk, .int .u8 fi, .int .u8 se] 81)).alloc (.cells #[.int .u8 ys, .int .u8 xs, .int .u8 tl, .int .u8 av] 105)) = u0 at B0 P0 Q0 ⊢
  generalize w.heap.size + 1 = qb at Q0 LQ NPQ ⊢
  generalize w.heap.size = pb at P0 LP NPQ ⊢
  have B1 := Lib.hid B0.out.drew
  have P1 := Lib.hid P0.out.drew
  have Q1 := Lib.hid Q0.out.drew
  clear B0 P0 Q0
  refine wp_region_held_drew (S := (fun w' => (∀ o, w'.cell? ⟨pb, o, none⟩ = (#[.int .u8 c, .int .u8 bk, .int .u8 fi, .int .u8 se])[o]?) ∧ (∀ o, w'.cell? ⟨qb, o, none⟩ = (#[.int .u8 ys, .int .u8 xs, .int .u8 tl, .int .u8 av])[o]?))) (by kernel_rfl) ⟨P1.out.2.1, Q1.out.2.1⟩ (fun hHeld => ?_)
  generalize World.drew _ = u1 at hHeld B1 P1 Q1 ⊢
  refine tzz 0 ?_
  refine tzz 1 ?_
  refine wpAnyH_ready (rs := [2]) (by kernel_rfl) (by simp) ?_
  refine (acc rfl (fun K hK => ?_) AllReadyH.nil)
  ·skip
   go_simp
   with_reducible refine (TP.out _).mono ?_
   rintro q_ u2 ⟨rfl, hb⟩
   have B2 := Lib.hid (vian HN.out B1.out hb)
   have P2 := Lib.hid (P1.out.below hb)
   have Q2 := Lib.hid (Q1.out.below hb)
   clear hb
   clear B1 P1 Q1
   refine hK.out _ _ ?s3 (fun hNew => ?r3)
   case s3 => exact ⟨P2.out.2.1, Q2.out.2.1⟩
   clear hK K hHeld
   have hHeld := hNew
   clear hNew
   refine tzz 3 ?_
   refine tzz 4 ?_
   refine tzz 5 ?_
   refine tzz 6 ?_
   refine tzz 8 ?_
   refine wpAnyH_ready (rs := [7]) (by kernel_rfl) (by simp) ?_
   refine (acc rfl (fun K hK => ?_) AllReadyH.nil)
   ·skip
    go_simp
    with_reducible refine (TP.out _).mono ?_
    rintro q_ u3 ⟨rfl, hb⟩
    have B3 := Lib.hid (vian HN.out B2.out hb)
    have P3 := Lib.hid (P2.out.below hb)
    have Q3 := Lib.hid (Q2.out.below hb)
    clear hb
    clear B2 P2 Q2
    refine hK.out _ _ ?s9 (fun hNew => ?r9)
    case s9 => exact ⟨P3.out.2.1, Q3.out.2.1⟩
    clear hK K hHeld
    have hHeld := hNew
    clear hNew
    refine wpAnyH_ready (rs := [9]) (by kernel_rfl) (by simp) ?_
    refine (acc rfl (fun K hK => ?_) AllReadyH.nil)
    ·skip
     go_simp
     with_reducible refine (HG.out _).mono ?_
     rintro q_ u4 ⟨rfl, hb⟩
     have B4 := Lib.hid (vian HN.out B3.out hb)
     have P4 := Lib.hid (P3.out.below hb)
     have Q4 := Lib.hid (Q3.out.below hb)
     clear hb
     clear B3 P3 Q3
     refine hK.out _ _ ?s10 (fun hNew => ?r10)
     case s10 => exact ⟨P4.out.2.1, Q4.out.2.1⟩
     clear hK K hHeld
     have hHeld := hNew
     clear hNew
     refine tzz 10 ?_
     refine tzz 11 ?_
     refine tzz 12 ?_
     refine tzz 13 ?_
     refine wpAnyH_done (by kernel_rfl) ?_ _
     clear hHeld
     go_wp2_with (fail)
     all_goals (go_ret; refine ⟨?_, B4.out⟩; first | rfl | (simp_all; done) | (simp; omega) | (simp [*]; done))
 ·skip
  have d1 : decide (ys - 16 ≤ line) = false := decide_eq_false h1
  rw [d1]
  go_enter Try.func93, Try.ntmps93
  have Q_ := own2 w (.cells #[.int .u8 c, .int .u8 bk, .int .u8 fi, .int .u8 se] 81) (.cells #[.int .u8 ys, .int .u8 xs, .int .u8 tl, .int .u8 av] 105)
  have B0 := Lib.hid (vian HN.out BB.out Q_)
  have P0 := Lib.hid (show Has ((w.alloc (.cells #[.int .u8 c, .int .u8 bk, .int .u8 fi, .int .u8 se] 81)).alloc (.cells #[.int .u8 ys, .int .u8 xs, .int .u8 tl, .int .u8 av] 105)) w.heap.size #[.int .u8 c, .int .u8 bk, .int .u8 fi, .int .u8 se] by simpa using (Has.new w #[.int .u8 c, .int .u8 bk, .int .u8 fi, .int .u8 se] 81).alloc (.cells #[.int .u8 ys, .int .u8 xs, .int .u8 tl, .int .u8 av] 105))
  have LP := Lib.hid (show n_ ≤ w.heap.size + 0 from Nat.le_add_right_of_le (Nat.le_trans HN.out BB.out.size))
  have Q0 := Lib.hid (show Has ((w.alloc (.cells #[.int .u8 c, .int .u8 bk, .int .u8 fi, .int .u8 se] 81)).alloc (.cells #[.int .u8 ys, .int .u8 xs, .int .u8 tl, .int .u8 av] 105)) (w.heap.size + 1) #[.int .u8 ys, .int .u8 xs, .int .u8 tl, .int .u8 av] by simpa using Has.new (w.alloc (.cells #[.int .u8 c, .int .u8 bk, .int .u8 fi, .int .u8 se] 81)) #[.int .u8 ys, .int .u8 xs, .int .u8 tl, .int .u8 av] 105)
  have LQ := Lib.hid (show n_ ≤ (w.heap.size + 1) from Nat.le_add_right_of_le (Nat.le_trans HN.out BB.out.size))
  have NPQ := Lib.hid (show w.heap.size + 0 ≠ w.heap.size + 1 by omega)
  simp only [Nat.add_zero] at LP NPQ
  clear Q_
  go_upto_region 1 with (fail)
  generalize ((w.alloc (.cells #[.int .u8 c, .int .u8 bk, .int .u8 fi, .int .u8 se] 81)).alloc (.cells #[.int .u8 ys, .int .u8 xs, .int .u8 tl, .int .u8 av] 105)) = u0 at B0 P0 Q0 ⊢
  generalize w.heap.size + 1 = qb at Q0 LQ NPQ ⊢
  generalize w.heap.size = pb at P0 LP NPQ ⊢
  have B1 := Lib.hid B0.out.drew
  have P1 := Lib.hid P0.out.drew
  have Q1 := Lib.hid Q0.out.drew
  clear B0 P0 Q0
  refine wp_region_held_drew (S := (fun w' => (∀ o, w'.cell? ⟨pb, o, none⟩ = (#[.int .u8 c, .int .u8 bk, .int .u8 fi, .int .u8 se])[o]?) ∧ (∀ o, w'.cell? ⟨qb, o, none⟩ = (#[.int .u8 ys, .int .u8 xs, .int .u8 tl, .int .u8 av])[o]?))) (by kernel_rfl) ⟨P1.out.2.1, Q1.out.2.1⟩ (fun hHeld => ?_)
  generalize World.drew _ = u1 at hHeld B1 P1 Q1 ⊢
  refine tzz 0 ?_
  refine tzz 1 ?_
  refine wpAnyH_ready (rs := [2]) (by kernel_rfl) (by simp) ?_
  refine (acc rfl (fun K hK => ?_) AllReadyH.nil)
  ·skip
   go_simp
   with_reducible refine (TP.out _).mono ?_
   rintro q_ u2 ⟨rfl, hb⟩
   have B2 := Lib.hid (vian HN.out B1.out hb)
   have P2 := Lib.hid (P1.out.below hb)
   have Q2 := Lib.hid (Q1.out.below hb)
   clear hb
   clear B1 P1 Q1
   refine hK.out _ _ ?s17 (fun hNew => ?r17)
   case s17 => exact ⟨P2.out.2.1, Q2.out.2.1⟩
   clear hK K hHeld
   have hHeld := hNew
   clear hNew
   refine tzz 3 ?_
   refine tzz 4 ?_
   refine tuu 5 rfl ?_
   try simp only [Act.put, qqA, qqB, qqC]
   refine tuu 6 rfl ?_
   try simp only [Act.put, qqA, qqB, qqC]
   refine tuu 7 rfl ?_
   try simp only [Act.put, qqA, qqB, qqC]
   refine tuu 8 rfl ?_
   try simp only [Act.put, qqA, qqB, qqC]
   refine tuu 9 rfl ?_
   try simp only [Act.put, qqA, qqB, qqC]
   refine tuu 10 rfl ?_
   try simp only [Act.put, qqA, qqB, qqC]
   refine tuu 11 rfl ?_
   try simp only [Act.put, qqA, qqB, qqC]
   refine tzz 12 ?_
   refine tzz 13 ?_
   refine wpAnyH_done (by kernel_rfl) ?_ _
   clear hHeld
   go_wp2_with (fail)
   all_goals (go_ret; refine ⟨?_, B2.out⟩; first | rfl | (simp_all; done) | (simp; omega) | (simp [*]; done))
end Go.Proofs.Ytpfbodmadmneiaa
