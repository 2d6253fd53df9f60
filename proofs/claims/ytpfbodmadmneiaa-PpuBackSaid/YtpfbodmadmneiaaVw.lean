/-
  What a view tells of a tile, of a map, of the window: for every view; no condition but that each number fits.
-/
import Derived.Test.YtpfbodmadmneiaaSp
import Derived.Test.YtpfbodmadmneiaaVp
import Derived.Deep.Cut
import Derived.BigQuiet
import Derived.WalkSmall
namespace Go.Proofs.Ytpfbodmadmneiaa
open Go.ChangeShapes Go.WideShapes Go.ChangeAt Go.RowKit
set_option linter.unusedVariables false
set_option linter.unusedSimpArgs false
set_option maxRecDepth 100000
theorem bit0_c (x : Int) (h0 : 0 ≤ x) (h1 : x < 256) (w : World) : Calls Try.prog 63 #[.int .u8 x, .int .i64 0] w fun q_ w' => q_ = .returned (.int .i64 (bit x 0)) ∧ w = w' := bit_c x 0 h0 h1 (by omega) w
theorem bit3_c (x : Int) (h0 : 0 ≤ x) (h1 : x < 256) (w : World) : Calls Try.prog 63 #[.int .u8 x, .int .i64 3] w fun q_ w' => q_ = .returned (.int .i64 (bit x 3)) ∧ w = w' := bit_c x 3 h0 h1 (by omega) w
theorem wrap8 (b : Int) : IntKind.i8.wrap b = (b + 128) % 256 - 128 := by
  simp [IntKind.wrap, IntKind.bits, IntKind.signed]
  split <;> omega
set_option maxHeartbeats 2000000 in
theorem number_c (c sx sy wx wy : Int) (c0 : 0 ≤ c) (c1 : c < 256) (sx0 : 0 ≤ sx) (sx1 : sx < 256) (sy0 : 0 ≤ sy) (sy1 : sy < 256) (wx0 : 0 ≤ wx) (wx1 : wx < 256) (wy0 : 0 ≤ wy) (wy1 : wy < 256) (b : Int) (b0 : 0 ≤ b) (b1 : b < 256) (w : World) : Calls Try.prog 89 #[.agg #[.int .u8 c, .int .u8 sx, .int .u8 sy, .int .u8 wx, .int .u8 wy], .int .u8 b] w fun q_ w' => q_ = .returned (.int .i64 (numV c b)) ∧ Below w.heap.size w w' := by
  suffices hall : ∀ (n_ : Nat) (W0 : World), n_ ≤ W0.heap.size → Below n_ W0 w → Calls Try.prog 89 #[.agg #[.int .u8 c, .int .u8 sx, .int .u8 sy, .int .u8 wx, .int .u8 wy], .int .u8 b] w fun q_ w' => q_ = .returned (.int .i64 (numV c b)) ∧ Below n_ W0 w' from hall _ _ (Nat.le_refl _) (Below.refl _ _)
  intro n_ W0 hn hB
  have HN := Lib.hid hn
  have BB := Lib.hid hB
  clear hn hB
  have ea := an4 c c0 c1
  unfold numV
  have hb := bit_bd c 4
  have HQ : ∃ q, q = bit c 4 := ⟨_, rfl⟩
  obtain ⟨q, hq⟩ := HQ
  rw [← hq] at ea hb ⊢
  clear hq
  rcases hb with rfl | rfl
  · skip
    rw [if_neg (by decide)]
    rw [show (16 : Int) * 0 = 0 by decide] at ea
    by_cases h : 127 < b
    · rw [if_pos h]
      have w8 : IntKind.i8.wrap b = b - 256 := by rw [wrap8]; omega
      go_enter Try.func89, Try.ntmps89
      have Q_ := own1 w (.cells #[.int .u8 c, .int .u8 sx, .int .u8 sy, .int .u8 wx, .int .u8 wy] 80)
      have B0 := Lib.hid (vian HN.out BB.out Q_)
      have P0 := Lib.hid (show Has (w.alloc (.cells #[.int .u8 c, .int .u8 sx, .int .u8 sy, .int .u8 wx, .int .u8 wy] 80)) w.heap.size #[.int .u8 c, .int .u8 sx, .int .u8 sy, .int .u8 wx, .int .u8 wy] by simpa using Has.new w #[.int .u8 c, .int .u8 sx, .int .u8 sy, .int .u8 wx, .int .u8 wy] 80)
      have LP := Lib.hid (show n_ ≤ w.heap.size + 0 from Nat.le_add_right_of_le (Nat.le_trans HN.out BB.out.size))
      simp only [Nat.add_zero] at LP
      clear Q_
      go_upto_region 1 with (fail)
      generalize (w.alloc (.cells #[.int .u8 c, .int .u8 sx, .int .u8 sy, .int .u8 wx, .int .u8 wy] 80)) = u0 at B0 P0 ⊢
      generalize w.heap.size = pb at P0 LP  ⊢
      obtain ⟨hc0, hf0⟩ := P0.out.out
      go_wp2_with (fail)
      clear hc0 hf0
      go_ret
      exact ⟨by first | rfl | (show Ending.returned (.int .i64 (256 + (b - 256))) = _; rw [show (256 + (b - 256) : Int) = b by omega]), B0.out⟩
    · rw [if_neg h]
      have w8 : IntKind.i8.wrap b = b := by rw [wrap8]; omega
      go_enter Try.func89, Try.ntmps89
      have Q_ := own1 w (.cells #[.int .u8 c, .int .u8 sx, .int .u8 sy, .int .u8 wx, .int .u8 wy] 80)
      have B0 := Lib.hid (vian HN.out BB.out Q_)
      have P0 := Lib.hid (show Has (w.alloc (.cells #[.int .u8 c, .int .u8 sx, .int .u8 sy, .int .u8 wx, .int .u8 wy] 80)) w.heap.size #[.int .u8 c, .int .u8 sx, .int .u8 sy, .int .u8 wx, .int .u8 wy] by simpa using Has.new w #[.int .u8 c, .int .u8 sx, .int .u8 sy, .int .u8 wx, .int .u8 wy] 80)
      have LP := Lib.hid (show n_ ≤ w.heap.size + 0 from Nat.le_add_right_of_le (Nat.le_trans HN.out BB.out.size))
      simp only [Nat.add_zero] at LP
      clear Q_
      go_upto_region 1 with (fail)
      generalize (w.alloc (.cells #[.int .u8 c, .int .u8 sx, .int .u8 sy, .int .u8 wx, .int .u8 wy] 80)) = u0 at B0 P0 ⊢
      generalize w.heap.size = pb at P0 LP  ⊢
      obtain ⟨hc0, hf0⟩ := P0.out.out
      go_wp2_with (fail)
      clear hc0 hf0
      go_ret
      exact ⟨rfl, B0.out⟩
  · skip
    rw [if_pos (by decide)]
    rw [show (16 : Int) * 1 = 16 by decide] at ea
    go_enter Try.func89, Try.ntmps89
    have Q_ := own1 w (.cells #[.int .u8 c, .int .u8 sx, .int .u8 sy, .int .u8 wx, .int .u8 wy] 80)
    have B0 := Lib.hid (vian HN.out BB.out Q_)
    have P0 := Lib.hid (show Has (w.alloc (.cells #[.int .u8 c, .int .u8 sx, .int .u8 sy, .int .u8 wx, .int .u8 wy] 80)) w.heap.size #[.int .u8 c, .int .u8 sx, .int .u8 sy, .int .u8 wx, .int .u8 wy] by simpa using Has.new w #[.int .u8 c, .int .u8 sx, .int .u8 sy, .int .u8 wx, .int .u8 wy] 80)
    have LP := Lib.hid (show n_ ≤ w.heap.size + 0 from Nat.le_add_right_of_le (Nat.le_trans HN.out BB.out.size))
    simp only [Nat.add_zero] at LP
    clear Q_
    go_upto_region 1 with (fail)
    generalize (w.alloc (.cells #[.int .u8 c, .int .u8 sx, .int .u8 sy, .int .u8 wx, .int .u8 wy] 80)) = u0 at B0 P0 ⊢
    generalize w.heap.size = pb at P0 LP  ⊢
    obtain ⟨hc0, hf0⟩ := P0.out.out
    go_wp2_with (fail)
    clear hc0 hf0
    go_ret
    exact ⟨rfl, B0.out⟩
set_option maxHeartbeats 2000000 in
theorem rnumber_c (c sx sy wx wy : Int) (c0 : 0 ≤ c) (c1 : c < 256) (sx0 : 0 ≤ sx) (sx1 : sx < 256) (sy0 : 0 ≤ sy) (sy1 : sy < 256) (wx0 : 0 ≤ wx) (wx1 : wx < 256) (wy0 : 0 ≤ wy) (wy1 : wy < 256) (b : Int) (b0 : 0 ≤ b) (b1 : b < 256) (w : World) : Calls Try.prog 86 #[.agg #[.int .u8 c, .int .u8 sx, .int .u8 sy, .int .u8 wx, .int .u8 wy], .int .u8 b] w fun q_ w' => q_ = .returned (.int .i64 (numV c b)) ∧ Below w.heap.size w w' := by
  suffices hall : ∀ (n_ : Nat) (W0 : World), n_ ≤ W0.heap.size → Below n_ W0 w → Calls Try.prog 86 #[.agg #[.int .u8 c, .int .u8 sx, .int .u8 sy, .int .u8 wx, .int .u8 wy], .int .u8 b] w fun q_ w' => q_ = .returned (.int .i64 (numV c b)) ∧ Below n_ W0 w' from hall _ _ (Nat.le_refl _) (Below.refl _ _)
  intro n_ W0 hn hB
  have HN := Lib.hid hn
  have BB := Lib.hid hB
  clear hn hB
  have T1 := Lib.hid (fun W => bit4_c c c0 c1 W)
  unfold numV
  have hb := bit_bd c 4
  have HQ : ∃ q, q = bit c 4 := ⟨_, rfl⟩
  obtain ⟨q, hq⟩ := HQ
  rw [← hq] at T1 hb ⊢
  clear hq
  rcases hb with rfl | rfl
  · skip
    rw [if_neg (by decide)]
    by_cases h : 127 < b
    · rw [if_pos h]
      go_enter Try.func86, Try.ntmps86
      have Q_ := own1 w (.cells #[.int .u8 c, .int .u8 sx, .int .u8 sy, .int .u8 wx, .int .u8 wy] 72)
      have B0 := Lib.hid (vian HN.out BB.out Q_)
      have P0 := Lib.hid (show Has (w.alloc (.cells #[.int .u8 c, .int .u8 sx, .int .u8 sy, .int .u8 wx, .int .u8 wy] 72)) w.heap.size #[.int .u8 c, .int .u8 sx, .int .u8 sy, .int .u8 wx, .int .u8 wy] by simpa using Has.new w #[.int .u8 c, .int .u8 sx, .int .u8 sy, .int .u8 wx, .int .u8 wy] 72)
      have LP := Lib.hid (show n_ ≤ w.heap.size + 0 from Nat.le_add_right_of_le (Nat.le_trans HN.out BB.out.size))
      simp only [Nat.add_zero] at LP
      clear Q_
      go_upto_region 1 with (fail)
      generalize (w.alloc (.cells #[.int .u8 c, .int .u8 sx, .int .u8 sy, .int .u8 wx, .int .u8 wy] 72)) = u0 at B0 P0 ⊢
      generalize w.heap.size = pb at P0 LP  ⊢
      obtain ⟨hc0, hf0⟩ := P0.out.out
      go_wp2_with (fail)
      clear hc0 hf0
      with_reducible refine (T1.out _).mono ?_
      rintro q_ w' ⟨rfl, rfl⟩
      go_wp2_with (fail)
      go_ret
      exact ⟨rfl, B0.out⟩
    · rw [if_neg h]
      go_enter Try.func86, Try.ntmps86
      have Q_ := own1 w (.cells #[.int .u8 c, .int .u8 sx, .int .u8 sy, .int .u8 wx, .int .u8 wy] 72)
      have B0 := Lib.hid (vian HN.out BB.out Q_)
      have P0 := Lib.hid (show Has (w.alloc (.cells #[.int .u8 c, .int .u8 sx, .int .u8 sy, .int .u8 wx, .int .u8 wy] 72)) w.heap.size #[.int .u8 c, .int .u8 sx, .int .u8 sy, .int .u8 wx, .int .u8 wy] by simpa using Has.new w #[.int .u8 c, .int .u8 sx, .int .u8 sy, .int .u8 wx, .int .u8 wy] 72)
      have LP := Lib.hid (show n_ ≤ w.heap.size + 0 from Nat.le_add_right_of_le (Nat.le_trans HN.out BB.out.size))
      simp only [Nat.add_zero] at LP
      clear Q_
      go_upto_region 1 with (fail)
      generalize (w.alloc (.cells #[.int .u8 c, .int .u8 sx, .int .u8 sy, .int .u8 wx, .int .u8 wy] 72)) = u0 at B0 P0 ⊢
      generalize w.heap.size = pb at P0 LP  ⊢
      obtain ⟨hc0, hf0⟩ := P0.out.out
      go_wp2_with (fail)
      clear hc0 hf0
      with_reducible refine (T1.out _).mono ?_
      rintro q_ w' ⟨rfl, rfl⟩
      go_wp2_with (fail)
      go_ret
      exact ⟨rfl, B0.out⟩
  · skip
    rw [if_pos (by decide)]
    go_enter Try.func86, Try.ntmps86
    have Q_ := own1 w (.cells #[.int .u8 c, .int .u8 sx, .int .u8 sy, .int .u8 wx, .int .u8 wy] 72)
    have B0 := Lib.hid (vian HN.out BB.out Q_)
    have P0 := Lib.hid (show Has (w.alloc (.cells #[.int .u8 c, .int .u8 sx, .int .u8 sy, .int .u8 wx, .int .u8 wy] 72)) w.heap.size #[.int .u8 c, .int .u8 sx, .int .u8 sy, .int .u8 wx, .int .u8 wy] by simpa using Has.new w #[.int .u8 c, .int .u8 sx, .int .u8 sy, .int .u8 wx, .int .u8 wy] 72)
    have LP := Lib.hid (show n_ ≤ w.heap.size + 0 from Nat.le_add_right_of_le (Nat.le_trans HN.out BB.out.size))
    simp only [Nat.add_zero] at LP
    clear Q_
    go_upto_region 1 with (fail)
    generalize (w.alloc (.cells #[.int .u8 c, .int .u8 sx, .int .u8 sy, .int .u8 wx, .int .u8 wy] 72)) = u0 at B0 P0 ⊢
    generalize w.heap.size = pb at P0 LP  ⊢
    obtain ⟨hc0, hf0⟩ := P0.out.out
    go_wp2_with (fail)
    clear hc0 hf0
    with_reducible refine (T1.out _).mono ?_
    rintro q_ w' ⟨rfl, rfl⟩
    go_wp2_with (fail)
    go_ret
    exact ⟨rfl, B0.out⟩
set_option maxHeartbeats 2000000 in
theorem map3_c (c sx sy wx wy : Int) (c0 : 0 ≤ c) (c1 : c < 256) (sx0 : 0 ≤ sx) (sx1 : sx < 256) (sy0 : 0 ≤ sy) (sy1 : sy < 256) (wx0 : 0 ≤ wx) (wx1 : wx < 256) (wy0 : 0 ≤ wy) (wy1 : wy < 256) (w : World) : Calls Try.prog 78 #[.agg #[.int .u8 c, .int .u8 sx, .int .u8 sy, .int .u8 wx, .int .u8 wy], .int .u8 8] w fun q_ w' => q_ = .returned (.int .i64 (mapV c 3)) ∧ Below w.heap.size w w' := by
  suffices hall : ∀ (n_ : Nat) (W0 : World), n_ ≤ W0.heap.size → Below n_ W0 w → Calls Try.prog 78 #[.agg #[.int .u8 c, .int .u8 sx, .int .u8 sy, .int .u8 wx, .int .u8 wy], .int .u8 8] w fun q_ w' => q_ = .returned (.int .i64 (mapV c 3)) ∧ Below n_ W0 w' from hall _ _ (Nat.le_refl _) (Below.refl _ _)
  intro n_ W0 hn hB
  have HN := Lib.hid hn
  have BB := Lib.hid hB
  clear hn hB
  have ea := an3 c c0 c1
  unfold mapV
  have hb := bit_bd c 3
  have HQ : ∃ q, q = bit c 3 := ⟨_, rfl⟩
  obtain ⟨q, hq⟩ := HQ
  rw [← hq] at ea hb ⊢
  clear hq
  rcases hb with rfl | rfl
  · rw [if_neg (by decide)]
    rw [show (8 : Int) * 0 = 0 by decide] at ea
    go_enter Try.func78, Try.ntmps78
    have Q_ := own1 w (.cells #[.int .u8 c, .int .u8 sx, .int .u8 sy, .int .u8 wx, .int .u8 wy] 80)
    have B0 := Lib.hid (vian HN.out BB.out Q_)
    have P0 := Lib.hid (show Has (w.alloc (.cells #[.int .u8 c, .int .u8 sx, .int .u8 sy, .int .u8 wx, .int .u8 wy] 80)) w.heap.size #[.int .u8 c, .int .u8 sx, .int .u8 sy, .int .u8 wx, .int .u8 wy] by simpa using Has.new w #[.int .u8 c, .int .u8 sx, .int .u8 sy, .int .u8 wx, .int .u8 wy] 80)
    have LP := Lib.hid (show n_ ≤ w.heap.size + 0 from Nat.le_add_right_of_le (Nat.le_trans HN.out BB.out.size))
    simp only [Nat.add_zero] at LP
    clear Q_
    go_upto_region 1 with (fail)
    generalize (w.alloc (.cells #[.int .u8 c, .int .u8 sx, .int .u8 sy, .int .u8 wx, .int .u8 wy] 80)) = u0 at B0 P0 ⊢
    generalize w.heap.size = pb at P0 LP  ⊢
    obtain ⟨hc0, hf0⟩ := P0.out.out
    go_wp2_with (fail)
    clear hc0 hf0
    go_ret
    exact ⟨rfl, B0.out⟩
  · rw [if_pos (by decide)]
    rw [show (8 : Int) * 1 = 8 by decide] at ea
    go_enter Try.func78, Try.ntmps78
    have Q_ := own1 w (.cells #[.int .u8 c, .int .u8 sx, .int .u8 sy, .int .u8 wx, .int .u8 wy] 80)
    have B0 := Lib.hid (vian HN.out BB.out Q_)
    have P0 := Lib.hid (show Has (w.alloc (.cells #[.int .u8 c, .int .u8 sx, .int .u8 sy, .int .u8 wx, .int .u8 wy] 80)) w.heap.size #[.int .u8 c, .int .u8 sx, .int .u8 sy, .int .u8 wx, .int .u8 wy] by simpa using Has.new w #[.int .u8 c, .int .u8 sx, .int .u8 sy, .int .u8 wx, .int .u8 wy] 80)
    have LP := Lib.hid (show n_ ≤ w.heap.size + 0 from Nat.le_add_right_of_le (Nat.le_trans HN.out BB.out.size))
    simp only [Nat.add_zero] at LP
    clear Q_
    go_upto_region 1 with (fail)
    generalize (w.alloc (.cells #[.int .u8 c, .int .u8 sx, .int .u8 sy, .int .u8 wx, .int .u8 wy] 80)) = u0 at B0 P0 ⊢
    generalize w.heap.size = pb at P0 LP  ⊢
    obtain ⟨hc0, hf0⟩ := P0.out.out
    go_wp2_with (fail)
    clear hc0 hf0
    go_ret
    exact ⟨rfl, B0.out⟩
set_option maxHeartbeats 2000000 in
theorem map6_c (c sx sy wx wy : Int) (c0 : 0 ≤ c) (c1 : c < 256) (sx0 : 0 ≤ sx) (sx1 : sx < 256) (sy0 : 0 ≤ sy) (sy1 : sy < 256) (wx0 : 0 ≤ wx) (wx1 : wx < 256) (wy0 : 0 ≤ wy) (wy1 : wy < 256) (w : World) : Calls Try.prog 78 #[.agg #[.int .u8 c, .int .u8 sx, .int .u8 sy, .int .u8 wx, .int .u8 wy], .int .u8 64] w fun q_ w' => q_ = .returned (.int .i64 (mapV c 6)) ∧ Below w.heap.size w w' := by
  suffices hall : ∀ (n_ : Nat) (W0 : World), n_ ≤ W0.heap.size → Below n_ W0 w → Calls Try.prog 78 #[.agg #[.int .u8 c, .int .u8 sx, .int .u8 sy, .int .u8 wx, .int .u8 wy], .int .u8 64] w fun q_ w' => q_ = .returned (.int .i64 (mapV c 6)) ∧ Below n_ W0 w' from hall _ _ (Nat.le_refl _) (Below.refl _ _)
  intro n_ W0 hn hB
  have HN := Lib.hid hn
  have BB := Lib.hid hB
  clear hn hB
  have ea := an6 c c0 c1
  unfold mapV
  have hb := bit_bd c 6
  have HQ : ∃ q, q = bit c 6 := ⟨_, rfl⟩
  obtain ⟨q, hq⟩ := HQ
  rw [← hq] at ea hb ⊢
  clear hq
  rcases hb with rfl | rfl
  · rw [if_neg (by decide)]
    rw [show (64 : Int) * 0 = 0 by decide] at ea
    go_enter Try.func78, Try.ntmps78
    have Q_ := own1 w (.cells #[.int .u8 c, .int .u8 sx, .int .u8 sy, .int .u8 wx, .int .u8 wy] 80)
    have B0 := Lib.hid (vian HN.out BB.out Q_)
    have P0 := Lib.hid (show Has (w.alloc (.cells #[.int .u8 c, .int .u8 sx, .int .u8 sy, .int .u8 wx, .int .u8 wy] 80)) w.heap.size #[.int .u8 c, .int .u8 sx, .int .u8 sy, .int .u8 wx, .int .u8 wy] by simpa using Has.new w #[.int .u8 c, .int .u8 sx, .int .u8 sy, .int .u8 wx, .int .u8 wy] 80)
    have LP := Lib.hid (show n_ ≤ w.heap.size + 0 from Nat.le_add_right_of_le (Nat.le_trans HN.out BB.out.size))
    simp only [Nat.add_zero] at LP
    clear Q_
    go_upto_region 1 with (fail)
    generalize (w.alloc (.cells #[.int .u8 c, .int .u8 sx, .int .u8 sy, .int .u8 wx, .int .u8 wy] 80)) = u0 at B0 P0 ⊢
    generalize w.heap.size = pb at P0 LP  ⊢
    obtain ⟨hc0, hf0⟩ := P0.out.out
    go_wp2_with (fail)
    clear hc0 hf0
    go_ret
    exact ⟨rfl, B0.out⟩
  · rw [if_pos (by decide)]
    rw [show (64 : Int) * 1 = 64 by decide] at ea
    go_enter Try.func78, Try.ntmps78
    have Q_ := own1 w (.cells #[.int .u8 c, .int .u8 sx, .int .u8 sy, .int .u8 wx, .int .u8 wy] 80)
    have B0 := Lib.hid (vian HN.out BB.out Q_)
    have P0 := Lib.hid (show Has (w.alloc (.cells #[.int .u8 c, .int .u8 sx, .int .u8 sy, .int .u8 wx, .int .u8 wy] 80)) w.heap.size #[.int .u8 c, .int .u8 sx, .int .u8 sy, .int .u8 wx, .int .u8 wy] by simpa using Has.new w #[.int .u8 c, .int .u8 sx, .int .u8 sy, .int .u8 wx, .int .u8 wy] 80)
    have LP := Lib.hid (show n_ ≤ w.heap.size + 0 from Nat.le_add_right_of_le (Nat.le_trans HN.out BB.out.size))
    simp only [Nat.add_zero] at LP
    clear Q_
    go_upto_region 1 with (fail)
    generalize (w.alloc (.cells #[.int .u8 c, .int .u8 sx, .int .u8 sy, .int .u8 wx, .int .u8 wy] 80)) = u0 at B0 P0 ⊢
    generalize w.heap.size = pb at P0 LP  ⊢
    obtain ⟨hc0, hf0⟩ := P0.out.out
    go_wp2_with (fail)
    clear hc0 hf0
    go_ret
    exact ⟨rfl, B0.out⟩
set_option maxHeartbeats 2000000 in
theorem reach_c (c sx sy wx wy : Int) (c0 : 0 ≤ c) (c1 : c < 256) (sx0 : 0 ≤ sx) (sx1 : sx < 256) (sy0 : 0 ≤ sy) (sy1 : sy < 256) (wx0 : 0 ≤ wx) (wx1 : wx < 256) (wy0 : 0 ≤ wy) (wy1 : wy < 256) (line : Int) (line0 : -9223372036854775808 ≤ line) (line1 : line ≤ 9223372036854775807) (w : World) : Calls Try.prog 68 #[.agg #[.int .u8 c, .int .u8 sx, .int .u8 sy, .int .u8 wx, .int .u8 wy], .int .i64 line] w fun q_ w' => q_ = .returned (.bool (reachV c wx wy line)) ∧ Below w.heap.size w w' := by
  suffices hall : ∀ (n_ : Nat) (W0 : World), n_ ≤ W0.heap.size → Below n_ W0 w → Calls Try.prog 68 #[.agg #[.int .u8 c, .int .u8 sx, .int .u8 sy, .int .u8 wx, .int .u8 wy], .int .i64 line] w fun q_ w' => q_ = .returned (.bool (reachV c wx wy line)) ∧ Below n_ W0 w' from hall _ _ (Nat.le_refl _) (Below.refl _ _)
  intro n_ W0 hn hB
  have HN := Lib.hid hn
  have BB := Lib.hid hB
  clear hn hB
  have ea := an5 c c0 c1
  unfold reachV
  have hb := bit_bd c 5
  have HQ : ∃ q, q = bit c 5 := ⟨_, rfl⟩
  obtain ⟨q, hq⟩ := HQ
  rw [← hq] at ea hb ⊢
  clear hq
  rcases hb with rfl | rfl
  · skip
    rw [show (32 : Int) * 0 = 0 by decide] at ea
    go_enter Try.func68, Try.ntmps68
    have Q_ := own1 w (.cells #[.int .u8 c, .int .u8 sx, .int .u8 sy, .int .u8 wx, .int .u8 wy] 80)
    have B0 := Lib.hid (vian HN.out BB.out Q_)
    have P0 := Lib.hid (show Has (w.alloc (.cells #[.int .u8 c, .int .u8 sx, .int .u8 sy, .int .u8 wx, .int .u8 wy] 80)) w.heap.size #[.int .u8 c, .int .u8 sx, .int .u8 sy, .int .u8 wx, .int .u8 wy] by simpa using Has.new w #[.int .u8 c, .int .u8 sx, .int .u8 sy, .int .u8 wx, .int .u8 wy] 80)
    have LP := Lib.hid (show n_ ≤ w.heap.size + 0 from Nat.le_add_right_of_le (Nat.le_trans HN.out BB.out.size))
    simp only [Nat.add_zero] at LP
    clear Q_
    go_upto_region 1 with (fail)
    generalize (w.alloc (.cells #[.int .u8 c, .int .u8 sx, .int .u8 sy, .int .u8 wx, .int .u8 wy] 80)) = u0 at B0 P0 ⊢
    generalize w.heap.size = pb at P0 LP  ⊢
    obtain ⟨hc0, hf0⟩ := P0.out.out
    go_wp2_with (fail)
    clear hc0 hf0
    all_goals (go_ret; refine ⟨?_, B0.out⟩; first | rfl | (simp_all; done) | (simp; omega) | (simp [*]; done))
  · skip
    rw [show (32 : Int) * 1 = 32 by decide] at ea
    by_cases h1 : wy ≤ line
    · skip
      have d1 : decide (wy ≤ line) = true := by simpa using h1
      go_enter Try.func68, Try.ntmps68
      have Q_ := own1 w (.cells #[.int .u8 c, .int .u8 sx, .int .u8 sy, .int .u8 wx, .int .u8 wy] 80)
      have B0 := Lib.hid (vian HN.out BB.out Q_)
      have P0 := Lib.hid (show Has (w.alloc (.cells #[.int .u8 c, .int .u8 sx, .int .u8 sy, .int .u8 wx, .int .u8 wy] 80)) w.heap.size #[.int .u8 c, .int .u8 sx, .int .u8 sy, .int .u8 wx, .int .u8 wy] by simpa using Has.new w #[.int .u8 c, .int .u8 sx, .int .u8 sy, .int .u8 wx, .int .u8 wy] 80)
      have LP := Lib.hid (show n_ ≤ w.heap.size + 0 from Nat.le_add_right_of_le (Nat.le_trans HN.out BB.out.size))
      simp only [Nat.add_zero] at LP
      clear Q_
      go_upto_region 1 with (fail)
      generalize (w.alloc (.cells #[.int .u8 c, .int .u8 sx, .int .u8 sy, .int .u8 wx, .int .u8 wy] 80)) = u0 at B0 P0 ⊢
      generalize w.heap.size = pb at P0 LP  ⊢
      obtain ⟨hc0, hf0⟩ := P0.out.out
      go_wp2_with (fail)
      clear hc0 hf0
      all_goals (go_ret; refine ⟨?_, B0.out⟩; first | rfl | (simp_all; done) | (simp; omega) | (simp [*]; done))
    · skip
      have d1 : decide (wy ≤ line) = false := by simpa using h1
      go_enter Try.func68, Try.ntmps68
      have Q_ := own1 w (.cells #[.int .u8 c, .int .u8 sx, .int .u8 sy, .int .u8 wx, .int .u8 wy] 80)
      have B0 := Lib.hid (vian HN.out BB.out Q_)
      have P0 := Lib.hid (show Has (w.alloc (.cells #[.int .u8 c, .int .u8 sx, .int .u8 sy, .int .u8 wx, .int .u8 wy] 80)) w.heap.size #[.int .u8 c, .int .u8 sx, .int .u8 sy, .int .u8 wx, .int .u8 wy] by simpa using Has.new w #[.int .u8 c, .int .u8 sx, .int .u8 sy, .int .u8 wx, .int .u8 wy] 80)
      have LP := Lib.hid (show n_ ≤ w.heap.size + 0 from Nat.le_add_right_of_le (Nat.le_trans HN.out BB.out.size))
      simp only [Nat.add_zero] at LP
      clear Q_
      go_upto_region 1 with (fail)
      generalize (w.alloc (.cells #[.int .u8 c, .int .u8 sx, .int .u8 sy, .int .u8 wx, .int .u8 wy] 80)) = u0 at B0 P0 ⊢
      generalize w.heap.size = pb at P0 LP  ⊢
      obtain ⟨hc0, hf0⟩ := P0.out.out
      go_wp2_with (fail)
      clear hc0 hf0
      all_goals (go_ret; refine ⟨?_, B0.out⟩; first | rfl | (simp_all; done) | (simp; omega) | (simp [*]; done))
set_option maxHeartbeats 2000000 in
theorem seen_c (c sx sy wx wy : Int) (c0 : 0 ≤ c) (c1 : c < 256) (sx0 : 0 ≤ sx) (sx1 : sx < 256) (sy0 : 0 ≤ sy) (sy1 : sy < 256) (wx0 : 0 ≤ wx) (wx1 : wx < 256) (wy0 : 0 ≤ wy) (wy1 : wy < 256) (line : Int) (line0 : -9223372036854775808 ≤ line) (line1 : line ≤ 9223372036854775807) (w : World) : Calls Try.prog 50 #[.agg #[.int .u8 c, .int .u8 sx, .int .u8 sy, .int .u8 wx, .int .u8 wy], .int .i64 line] w fun q_ w' => q_ = .returned (.bool (decide (bit c 0 = 1) && reachV c wx wy line)) ∧ Below w.heap.size w w' := by
  suffices hall : ∀ (n_ : Nat) (W0 : World), n_ ≤ W0.heap.size → Below n_ W0 w → Calls Try.prog 50 #[.agg #[.int .u8 c, .int .u8 sx, .int .u8 sy, .int .u8 wx, .int .u8 wy], .int .i64 line] w fun q_ w' => q_ = .returned (.bool (decide (bit c 0 = 1) && reachV c wx wy line)) ∧ Below n_ W0 w' from hall _ _ (Nat.le_refl _) (Below.refl _ _)
  intro n_ W0 hn hB
  have HN := Lib.hid hn
  have BB := Lib.hid hB
  clear hn hB
  have T0 := Lib.hid (fun W => bit0_c c c0 c1 W)
  have T5 := Lib.hid (fun W => bit5_c c c0 c1 W)
  unfold reachV
  have hb := bit_bd c 0
  have hb5 := bit_bd c 5
  obtain ⟨q, hq⟩ : ∃ q, q = bit c 0 := ⟨_, rfl⟩
  obtain ⟨r, hr⟩ : ∃ q, q = bit c 5 := ⟨_, rfl⟩
  rw [← hq] at T0 hb ⊢
  rw [← hr] at T5 hb5 ⊢
  clear hq hr
  rcases hb with rfl | rfl
  · skip
    go_enter Try.func50, Try.ntmps50
    have Q_ := own1 w (.cells #[.int .u8 c, .int .u8 sx, .int .u8 sy, .int .u8 wx, .int .u8 wy] 72)
    have B0 := Lib.hid (vian HN.out BB.out Q_)
    have P0 := Lib.hid (show Has (w.alloc (.cells #[.int .u8 c, .int .u8 sx, .int .u8 sy, .int .u8 wx, .int .u8 wy] 72)) w.heap.size #[.int .u8 c, .int .u8 sx, .int .u8 sy, .int .u8 wx, .int .u8 wy] by simpa using Has.new w #[.int .u8 c, .int .u8 sx, .int .u8 sy, .int .u8 wx, .int .u8 wy] 72)
    have LP := Lib.hid (show n_ ≤ w.heap.size + 0 from Nat.le_add_right_of_le (Nat.le_trans HN.out BB.out.size))
    simp only [Nat.add_zero] at LP
    clear Q_
    go_upto_region 1 with (fail)
    generalize (w.alloc (.cells #[.int .u8 c, .int .u8 sx, .int .u8 sy, .int .u8 wx, .int .u8 wy] 72)) = u0 at B0 P0 ⊢
    generalize w.heap.size = pb at P0 LP  ⊢
    obtain ⟨hc0, hf0⟩ := P0.out.out
    go_wp2_with (fail)
    clear hc0 hf0
    with_reducible refine (T0.out _).mono ?_
    rintro q_ w' ⟨rfl, rfl⟩
    obtain ⟨hc0, hf0⟩ := P0.out.out
    go_wp2_with (fail)
    clear hc0 hf0
    all_goals (go_ret; refine ⟨?_, B0.out⟩; first | rfl | (simp_all; done) | (simp; omega) | (simp [*]; done))
  · skip
    rcases hb5 with rfl | rfl
    · skip
      go_enter Try.func50, Try.ntmps50
      have Q_ := own1 w (.cells #[.int .u8 c, .int .u8 sx, .int .u8 sy, .int .u8 wx, .int .u8 wy] 72)
      have B0 := Lib.hid (vian HN.out BB.out Q_)
      have P0 := Lib.hid (show Has (w.alloc (.cells #[.int .u8 c, .int .u8 sx, .int .u8 sy, .int .u8 wx, .int .u8 wy] 72)) w.heap.size #[.int .u8 c, .int .u8 sx, .int .u8 sy, .int .u8 wx, .int .u8 wy] by simpa using Has.new w #[.int .u8 c, .int .u8 sx, .int .u8 sy, .int .u8 wx, .int .u8 wy] 72)
      have LP := Lib.hid (show n_ ≤ w.heap.size + 0 from Nat.le_add_right_of_le (Nat.le_trans HN.out BB.out.size))
      simp only [Nat.add_zero] at LP
      clear Q_
      go_upto_region 1 with (fail)
      generalize (w.alloc (.cells #[.int .u8 c, .int .u8 sx, .int .u8 sy, .int .u8 wx, .int .u8 wy] 72)) = u0 at B0 P0 ⊢
      generalize w.heap.size = pb at P0 LP  ⊢
      obtain ⟨hc0, hf0⟩ := P0.out.out
      go_wp2_with (fail)
      clear hc0 hf0
      with_reducible refine (T0.out _).mono ?_
      rintro q_ w' ⟨rfl, rfl⟩
      obtain ⟨hc0, hf0⟩ := P0.out.out
      go_wp2_with (fail)
      clear hc0 hf0
      with_reducible refine (T5.out _).mono ?_
      rintro q_ w' ⟨rfl, rfl⟩
      obtain ⟨hc0, hf0⟩ := P0.out.out
      go_wp2_with (fail)
      clear hc0 hf0
      all_goals (go_ret; refine ⟨?_, B0.out⟩; first | rfl | (simp_all; done) | (simp; omega) | (simp [*]; done))
    · skip
      by_cases h1 : wy ≤ line
      · have d1 : decide (wy ≤ line) = true := by simpa using h1
        go_enter Try.func50, Try.ntmps50
        have Q_ := own1 w (.cells #[.int .u8 c, .int .u8 sx, .int .u8 sy, .int .u8 wx, .int .u8 wy] 72)
        have B0 := Lib.hid (vian HN.out BB.out Q_)
        have P0 := Lib.hid (show Has (w.alloc (.cells #[.int .u8 c, .int .u8 sx, .int .u8 sy, .int .u8 wx, .int .u8 wy] 72)) w.heap.size #[.int .u8 c, .int .u8 sx, .int .u8 sy, .int .u8 wx, .int .u8 wy] by simpa using Has.new w #[.int .u8 c, .int .u8 sx, .int .u8 sy, .int .u8 wx, .int .u8 wy] 72)
        have LP := Lib.hid (show n_ ≤ w.heap.size + 0 from Nat.le_add_right_of_le (Nat.le_trans HN.out BB.out.size))
        simp only [Nat.add_zero] at LP
        clear Q_
        go_upto_region 1 with (fail)
        generalize (w.alloc (.cells #[.int .u8 c, .int .u8 sx, .int .u8 sy, .int .u8 wx, .int .u8 wy] 72)) = u0 at B0 P0 ⊢
        generalize w.heap.size = pb at P0 LP  ⊢
        obtain ⟨hc0, hf0⟩ := P0.out.out
        go_wp2_with (fail)
        clear hc0 hf0
        with_reducible refine (T0.out _).mono ?_
        rintro q_ w' ⟨rfl, rfl⟩
        obtain ⟨hc0, hf0⟩ := P0.out.out
        go_wp2_with (fail)
        clear hc0 hf0
        with_reducible refine (T5.out _).mono ?_
        rintro q_ w' ⟨rfl, rfl⟩
        obtain ⟨hc0, hf0⟩ := P0.out.out
        go_wp2_with (fail)
        clear hc0 hf0
        all_goals (go_ret; refine ⟨?_, B0.out⟩; first | rfl | (simp_all; done) | (simp; omega) | (simp [*]; done))
      · have d1 : decide (wy ≤ line) = false := by simpa using h1
        go_enter Try.func50, Try.ntmps50
        have Q_ := own1 w (.cells #[.int .u8 c, .int .u8 sx, .int .u8 sy, .int .u8 wx, .int .u8 wy] 72)
        have B0 := Lib.hid (vian HN.out BB.out Q_)
        have P0 := Lib.hid (show Has (w.alloc (.cells #[.int .u8 c, .int .u8 sx, .int .u8 sy, .int .u8 wx, .int .u8 wy] 72)) w.heap.size #[.int .u8 c, .int .u8 sx, .int .u8 sy, .int .u8 wx, .int .u8 wy] by simpa using Has.new w #[.int .u8 c, .int .u8 sx, .int .u8 sy, .int .u8 wx, .int .u8 wy] 72)
        have LP := Lib.hid (show n_ ≤ w.heap.size + 0 from Nat.le_add_right_of_le (Nat.le_trans HN.out BB.out.size))
        simp only [Nat.add_zero] at LP
        clear Q_
        go_upto_region 1 with (fail)
        generalize (w.alloc (.cells #[.int .u8 c, .int .u8 sx, .int .u8 sy, .int .u8 wx, .int .u8 wy] 72)) = u0 at B0 P0 ⊢
        generalize w.heap.size = pb at P0 LP  ⊢
        obtain ⟨hc0, hf0⟩ := P0.out.out
        go_wp2_with (fail)
        clear hc0 hf0
        with_reducible refine (T0.out _).mono ?_
        rintro q_ w' ⟨rfl, rfl⟩
        obtain ⟨hc0, hf0⟩ := P0.out.out
        go_wp2_with (fail)
        clear hc0 hf0
        with_reducible refine (T5.out _).mono ?_
        rintro q_ w' ⟨rfl, rfl⟩
        obtain ⟨hc0, hf0⟩ := P0.out.out
        go_wp2_with (fail)
        clear hc0 hf0
        all_goals (go_ret; refine ⟨?_, B0.out⟩; first | rfl | (simp_all; done) | (simp; omega) | (simp [*]; done))
end Go.Proofs.Ytpfbodmadmneiaa
