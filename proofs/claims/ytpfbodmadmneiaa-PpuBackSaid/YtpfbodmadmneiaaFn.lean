/-
  The small functions that only read: a byte of the memory, a remainder, a bit, a shade: for every world; no condition but that the bytes lie as told.
-/
import Derived.Test.YtpfbodmadmneiaaPure
import Derived.Deep.Cut
import Derived.Deep.QuietTactic
import Derived.BigQuiet
import Derived.LoopN
namespace Go.Proofs.Ytpfbodmadmneiaa
open Go.ChangeShapes Go.WideShapes Go.ChangeAt Go.RowKit
set_option linter.unusedVariables false
set_option linter.unusedSimpArgs false
set_option maxRecDepth 100000
set_option maxHeartbeats 1000000 in
theorem at_c (s : Value) (F : M) (k : Nat) (hk : k < 8192) (w : World) (h : Mem w s F) : Calls Try.prog 87 #[s, .int .i64 (k : Int)] w fun q_ w' => q_ = .returned (.int .u8 (F k)) ∧ w = w' := by
  obtain ⟨a, n, c, rfl, h1, h2, h3, h4, h5⟩ := h
  have k0 : (0 : Int) ≤ (k : Int) := by omega
  have k1 : (k : Int) < 8192 := by omega
  by_cases hlt : k < n
  · obtain ⟨b, o, rfl, e2, e3⟩ := h5 (by omega)
    have hc := e3 k hlt
    have l1 : (k : Int) < (n : Int) := by omega
    generalize F k = x at hc ⊢
    clear e3 h5 h4 h3
    go_enter Try.func87, Try.ntmps87
    go_wp2
    go_ret
    exact ⟨rfl, rfl⟩
  · rw [h4 k (by omega)]
    have l1 : ¬ (k : Int) < (n : Int) := by omega
    clear h5 h4 h3
    go_enter Try.func87, Try.ntmps87
    go_wp2
    go_ret
    exact ⟨rfl, rfl⟩
set_option maxHeartbeats 1000000 in
theorem rat_c (s : Value) (F : M) (k : Nat) (hk : k < 8192) (w : World) (h : Mem w s F) : Calls Try.prog 85 #[s, .int .i64 (k : Int)] w fun q_ w' => q_ = .returned (.int .u8 (F k)) ∧ w = w' := by
  obtain ⟨a, n, c, rfl, h1, h2, h3, h4, h5⟩ := h
  have k0 : (0 : Int) ≤ (k : Int) := by omega
  have k1 : (k : Int) < 8192 := by omega
  by_cases hlt : k < n
  · obtain ⟨b, o, rfl, e2, e3⟩ := h5 (by omega)
    have hc := e3 k hlt
    have l1 : (k : Int) < (n : Int) := by omega
    generalize F k = x at hc ⊢
    clear e3 h5 h4 h3
    go_enter Try.func85, Try.ntmps85
    go_wp2
    go_ret
    exact ⟨rfl, rfl⟩
  · rw [h4 k (by omega)]
    have l1 : ¬ (k : Int) < (n : Int) := by omega
    clear h5 h4 h3
    go_enter Try.func85, Try.ntmps85
    go_wp2
    go_ret
    exact ⟨rfl, rfl⟩
theorem mod_8 (x : Int) : (x.tmod 8 + 8).tmod 8 = x % 8 := by
  have h1 : -8 < x.tmod 8 ∧ x.tmod 8 < 8 ∧ (x - x.tmod 8) % 8 = 0 := by
    by_cases h : 0 ≤ x
    · rw [Int.tmod_eq_emod_of_nonneg h]; omega
    · have e : x.tmod 8 = -((-x) % 8) := by
        rw [← Int.tmod_eq_emod_of_nonneg (by omega), Int.neg_tmod, Int.neg_neg]
      rw [e]; omega
  rw [Int.tmod_eq_emod_of_nonneg (by omega)]
  omega
set_option maxHeartbeats 1000000 in
theorem mod8_c (x : Int) (h0 : -9223372036854775808 ≤ x) (h1 : x ≤ 9223372036854775807) (w : World) : Calls Try.prog 76 #[.int .i64 x, .int .i64 8] w fun q_ w' => q_ = .returned (.int .i64 (x % 8)) ∧ w = w' := by
  have e := mod_8 x
  have b1 : -8 < x.tmod 8 ∧ x.tmod 8 < 8 := by
    by_cases h : 0 ≤ x
    · rw [Int.tmod_eq_emod_of_nonneg h]; omega
    · have e : x.tmod 8 = -((-x) % 8) := by
        rw [← Int.tmod_eq_emod_of_nonneg (by omega), Int.neg_tmod, Int.neg_neg]
      rw [e]; omega
  generalize x % 8 = z at e ⊢
  generalize hq : x.tmod 8 = q at e b1
  go_enter Try.func76, Try.ntmps76
  go_wp2
  go_ret
  exact ⟨rfl, rfl⟩
theorem mod_256 (x : Int) : (x.tmod 256 + 256).tmod 256 = x % 256 := by
  have h1 : -256 < x.tmod 256 ∧ x.tmod 256 < 256 ∧ (x - x.tmod 256) % 256 = 0 := by
    by_cases h : 0 ≤ x
    · rw [Int.tmod_eq_emod_of_nonneg h]; omega
    · have e : x.tmod 256 = -((-x) % 256) := by
        rw [← Int.tmod_eq_emod_of_nonneg (by omega), Int.neg_tmod, Int.neg_neg]
      rw [e]; omega
  rw [Int.tmod_eq_emod_of_nonneg (by omega)]
  omega
set_option maxHeartbeats 1000000 in
theorem mod256_c (x : Int) (h0 : -9223372036854775808 ≤ x) (h1 : x ≤ 9223372036854775807) (w : World) : Calls Try.prog 76 #[.int .i64 x, .int .i64 256] w fun q_ w' => q_ = .returned (.int .i64 (x % 256)) ∧ w = w' := by
  have e := mod_256 x
  have b1 : -256 < x.tmod 256 ∧ x.tmod 256 < 256 := by
    by_cases h : 0 ≤ x
    · rw [Int.tmod_eq_emod_of_nonneg h]; omega
    · have e : x.tmod 256 = -((-x) % 256) := by
        rw [← Int.tmod_eq_emod_of_nonneg (by omega), Int.neg_tmod, Int.neg_neg]
      rw [e]; omega
  generalize x % 256 = z at e ⊢
  generalize hq : x.tmod 256 = q at e b1
  go_enter Try.func76, Try.ntmps76
  go_wp2
  go_ret
  exact ⟨rfl, rfl⟩
set_option maxHeartbeats 1000000 in
theorem bit_c (x : Int) (n : Nat) (h0 : 0 ≤ x) (h1 : x < 256) (hn : n < 64) (w : World) : Calls Try.prog 63 #[.int .u8 x, .int .i64 (n : Int)] w fun q_ w' => q_ = .returned (.int .i64 (bit x n)) ∧ w = w' := by
  have HB := Lib.hid (hv_bd x h0 h1)
  go_enter Try.func63, Try.ntmps63
  go_wp2
  go_loop [5, 6] (fun y i => ∃ k : Nat, k ≤ n ∧ i = .int .i64 k ∧ y = .int .i64 (hv x k)) (fun _ i => n - (intOf i).toNat)
  case atStart => exact ⟨0, Nat.zero_le _, rfl, rfl⟩
  case round =>
    obtain ⟨k, hk, rfl, rfl⟩ := hrel
    have hb := HB.out k
    by_cases hlt : k < n
    · have TS := Lib.hid (show hv x (k + 1) = hv x k / 2 from rfl)
      generalize hv x k = y at hb TS ⊢
      have l1 : (k : Int) < n := by omega
      go_wp2
      go_round
      case rel => exact ⟨k + 1, by omega, by go_num, by rw [TS.out]⟩
      case measure => simp [intOf]; omega
    · have e : k = n := by omega
      subst e
      have TS := Lib.hid (show bit x k = hv x k % 2 from rfl)
      generalize hv x k = y at hb TS ⊢
      have e1 := TS.out
      have l1 : ¬ (k : Int) < k := by omega
      go_wp2
      go_ret
      exact ⟨rfl, rfl⟩
set_option maxHeartbeats 1000000 in
theorem shade_c (p k : Int) (h0 : 0 ≤ p) (h1 : p < 256) (g0 : 0 ≤ k) (g1 : k < 256) (w : World) : Calls Try.prog 84 #[.int .u8 p, .int .u8 k] w fun q_ w' => q_ = .returned (.int .u8 (shadeV p k)) ∧ w = w' := by
  obtain ⟨j, hj⟩ : ∃ j : Nat, k % 4 = (j : Int) := ⟨(k % 4).toNat, by omega⟩
  have j4 : j < 4 := by omega
  have ea : bits .and .u8 k 3 = (j : Int) := by rw [an3k k g0 g1]; exact hj
  have es := shade_all p k h0 h1 j j4 hj
  generalize shadeV p k = z at es ⊢
  go_enter Try.func84, Try.ntmps84
  go_wp2
  go_ret
  exact ⟨by first | rfl | (rw [← es]; rfl), rfl⟩
set_option maxHeartbeats 1000000 in
theorem dot_lo (s : Value) (F : M) (t x y : Int) (hx0 : -9223372036854775808 ≤ x) (hx1 : x ≤ 9223372036854775807) (hy0 : -9223372036854775808 ≤ y) (hy1 : y ≤ 9223372036854775807) (h : t < 0) (w : World) : Calls Try.prog 88 #[s, .int .i64 t, .int .i64 x, .int .i64 y] w fun q_ w' => q_ = .returned (.int .u8 0) ∧ w = w' := by
  go_enter Try.func88, Try.ntmps88
  go_wp2
  go_ret
  exact ⟨rfl, rfl⟩
set_option maxHeartbeats 1000000 in
theorem dot_hi (s : Value) (F : M) (t x y : Int) (hx0 : -9223372036854775808 ≤ x) (hx1 : x ≤ 9223372036854775807) (hy0 : -9223372036854775808 ≤ y) (hy1 : y ≤ 9223372036854775807) (h : 383 < t) (w : World) : Calls Try.prog 88 #[s, .int .i64 t, .int .i64 x, .int .i64 y] w fun q_ w' => q_ = .returned (.int .u8 0) ∧ w = w' := by
  go_enter Try.func88, Try.ntmps88
  go_wp2
  go_ret
  exact ⟨rfl, rfl⟩
set_option maxHeartbeats 2000000 in
theorem dot_in (s : Value) (F : M) (t : Nat) (x y : Int) (hx0 : -9223372036854775808 ≤ x) (hx1 : x ≤ 9223372036854775807) (hy0 : -9223372036854775808 ≤ y) (hy1 : y ≤ 9223372036854775807) (ht : t < 384) (w : World) (h : Mem w s F) : Calls Try.prog 88 #[s, .int .i64 (t : Int), .int .i64 x, .int .i64 y] w fun q_ w' => q_ = .returned (.int .u8 (dotV F t x y)) ∧ w = w' := by
  obtain ⟨i, hi⟩ : ∃ i : Nat, x % 8 = 7 - (i : Int) := ⟨(7 - x % 8).toNat, by omega⟩
  obtain ⟨j, hj⟩ : ∃ j : Nat, y % 8 = (j : Int) := ⟨(y % 8).toNat, by omega⟩
  have i8 : i < 8 := by omega
  have j8 : j < 8 := by omega
  have ok := h.ok
  have A1 := at_c s F (16 * t + 2 * j) (by omega) w h
  have A2 := at_c s F (16 * t + 2 * j + 1) (by omega) w h
  have ev : dotV F t x y = bit (F (16 * t + 2 * j)) i + 2 * bit (F (16 * t + 2 * j + 1)) i := by
    unfold dotV
    rw [if_neg (by omega), hj, hi, show (7 - (7 - (i : Int))).toNat = i by omega, Int.toNat_natCast, Int.toNat_natCast]
  rw [ev]
  have p1 := ok (16 * t + 2 * j)
  have p2 := ok (16 * t + 2 * j + 1)
  generalize F (16 * t + 2 * j) = p at A1 p1 ⊢
  generalize F (16 * t + 2 * j + 1) = q at A2 p2 ⊢
  have d1 := dot_all p p1.1 p1.2 i i8
  have d2 := dot_all q p2.1 p2.2 i i8
  have c1 := bit_bd p i
  have c2 := bit_bd q i
  rw [show ((16 * t + 2 * j : Nat) : Int) = (t : Int) * 16 + (j : Int) * 2 by omega] at A1
  rw [show ((16 * t + 2 * j + 1 : Nat) : Int) = (t : Int) * 16 + (j : Int) * 2 + 1 by omega] at A2
  have ex : bits .and .i64 x 7 = 7 - (i : Int) := by rw [and7]; exact hi
  have ey : bits .and .i64 y 7 = (j : Int) := by rw [and7]; exact hj
  generalize bit p i = r1 at d1 c1 ⊢
  generalize bit q i = r2 at d2 c2 ⊢
  have H1 := Lib.hid A1
  have H2 := Lib.hid A2
  clear A1 A2 ev ok h hi hj
  have t0 : ¬ (t : Int) < 0 := by omega
  have t1 : ¬ (383 : Int) < t := by omega
  go_enter Try.func88, Try.ntmps88
  go_wp2_with fail
  with_reducible refine H1.out.mono ?_
  rintro q_ w' ⟨rfl, rfl⟩
  go_wp2_with fail
  with_reducible refine H2.out.mono ?_
  rintro q_ w' ⟨rfl, rfl⟩
  go_wp2_with fail
  go_ret
  have ei : 7 - (7 - i) = i := by omega
  refine ⟨?_, rfl⟩
  show Ending.returned (.int .u8 ((bits .and .u8 (p / 2 ^ (7 - (7 - i))) 1 + 2 * bits .and .u8 (q / 2 ^ (7 - (7 - i))) 1 % 256) % 256)) = _
  rw [ei, d1, d2, show (r1 + 2 * r2 % 256) % 256 = r1 + 2 * r2 by omega]
theorem dot_c (s : Value) (F : M) (t x y : Int) (hx0 : -9223372036854775808 ≤ x) (hx1 : x ≤ 9223372036854775807) (hy0 : -9223372036854775808 ≤ y) (hy1 : y ≤ 9223372036854775807)  (w : World) (h : Mem w s F) : Calls Try.prog 88 #[s, .int .i64 t, .int .i64 x, .int .i64 y] w fun q_ w' => q_ = .returned (.int .u8 (dotV F t x y)) ∧ w = w' := by
  by_cases h0 : t < 0
  · rw [show dotV F t x y = 0 from if_pos (Or.inl h0)]
    exact dot_lo s F t x y hx0 hx1 hy0 hy1 h0 w
  · by_cases h1 : 383 < t
    · rw [show dotV F t x y = 0 from if_pos (Or.inr h1)]
      exact dot_hi s F t x y hx0 hx1 hy0 hy1 h1 w
    · obtain ⟨n, rfl⟩ := Int.eq_ofNat_of_zero_le (show 0 ≤ t by omega)
      exact dot_in s F n x y hx0 hx1 hy0 hy1 (by omega) w h
set_option maxHeartbeats 1000000 in
theorem rdot_lo (s : Value) (F : M) (t x y : Int) (hx0 : -9223372036854775808 ≤ x) (hx1 : x ≤ 9223372036854775807) (hy0 : -9223372036854775808 ≤ y) (hy1 : y ≤ 9223372036854775807) (h : t < 0) (w : World) : Calls Try.prog 74 #[s, .int .i64 t, .int .i64 x, .int .i64 y] w fun q_ w' => q_ = .returned (.int .u8 0) ∧ w = w' := by
  go_enter Try.func74, Try.ntmps74
  go_wp2
  go_ret
  exact ⟨rfl, rfl⟩
set_option maxHeartbeats 1000000 in
theorem rdot_hi (s : Value) (F : M) (t x y : Int) (hx0 : -9223372036854775808 ≤ x) (hx1 : x ≤ 9223372036854775807) (hy0 : -9223372036854775808 ≤ y) (hy1 : y ≤ 9223372036854775807) (h : 383 < t) (w : World) : Calls Try.prog 74 #[s, .int .i64 t, .int .i64 x, .int .i64 y] w fun q_ w' => q_ = .returned (.int .u8 0) ∧ w = w' := by
  go_enter Try.func74, Try.ntmps74
  go_wp2
  go_ret
  exact ⟨rfl, rfl⟩
set_option maxHeartbeats 2000000 in
theorem rdot_in (s : Value) (F : M) (t : Nat) (x y : Int) (hx0 : -9223372036854775808 ≤ x) (hx1 : x ≤ 9223372036854775807) (hy0 : -9223372036854775808 ≤ y) (hy1 : y ≤ 9223372036854775807) (ht : t < 384) (w : World) (h : Mem w s F) : Calls Try.prog 74 #[s, .int .i64 (t : Int), .int .i64 x, .int .i64 y] w fun q_ w' => q_ = .returned (.int .u8 (dotV F t x y)) ∧ w = w' := by
  obtain ⟨i, hi⟩ : ∃ i : Nat, x % 8 = 7 - (i : Int) := ⟨(7 - x % 8).toNat, by omega⟩
  obtain ⟨j, hj⟩ : ∃ j : Nat, y % 8 = (j : Int) := ⟨(y % 8).toNat, by omega⟩
  have i8 : i < 8 := by omega
  have j8 : j < 8 := by omega
  have ok := h.ok
  have A1 := rat_c s F (16 * t + 2 * j) (by omega) w h
  have A2 := rat_c s F (16 * t + 2 * j + 1) (by omega) w h
  have ev : dotV F t x y = bit (F (16 * t + 2 * j)) i + 2 * bit (F (16 * t + 2 * j + 1)) i := by
    unfold dotV
    rw [if_neg (by omega), hj, hi, show (7 - (7 - (i : Int))).toNat = i by omega, Int.toNat_natCast, Int.toNat_natCast]
  rw [ev]
  have p1 := ok (16 * t + 2 * j)
  have p2 := ok (16 * t + 2 * j + 1)
  generalize F (16 * t + 2 * j) = p at A1 p1 ⊢
  generalize F (16 * t + 2 * j + 1) = q at A2 p2 ⊢
  have d1 := dot_all p p1.1 p1.2 i i8
  have d2 := dot_all q p2.1 p2.2 i i8
  have c1 := bit_bd p i
  have c2 := bit_bd q i
  rw [show ((16 * t + 2 * j : Nat) : Int) = 16 * (t : Int) + 2 * (j : Int) by omega] at A1
  rw [show ((16 * t + 2 * j + 1 : Nat) : Int) = 16 * (t : Int) + 2 * (j : Int) + 1 by omega] at A2
  have M1 := mod8_c y hy0 hy1 w
  have M2 := mod8_c x hx0 hx1 w
  rw [hj] at M1
  rw [hi] at M2
  have T1 := bit_c p i p1.1 p1.2 (by omega) w
  have T2 := bit_c q i p2.1 p2.2 (by omega) w
  generalize bit p i = r1 at T1 d1 c1 ⊢
  generalize bit q i = r2 at T2 d2 c2 ⊢
  have H1 := Lib.hid A1
  have H2 := Lib.hid A2
  have H3 := Lib.hid M1
  have H4 := Lib.hid M2
  have H5 := Lib.hid T1
  have H6 := Lib.hid T2
  clear A1 A2 M1 M2 T1 T2 ev ok h hi hj d1 d2
  have t0 : ¬ (t : Int) < 0 := by omega
  have t1 : ¬ (383 : Int) < t := by omega
  have ei : 7 - (7 - (i : Int)) = (i : Int) := by omega
  go_enter Try.func74, Try.ntmps74
  go_wp2_with fail
  try rw [ei]
  with_reducible refine H3.out.mono ?_
  rintro q_ w' ⟨rfl, rfl⟩
  go_wp2_with fail
  try rw [ei]
  with_reducible refine H4.out.mono ?_
  rintro q_ w' ⟨rfl, rfl⟩
  go_wp2_with fail
  try rw [ei]
  with_reducible refine H1.out.mono ?_
  rintro q_ w' ⟨rfl, rfl⟩
  go_wp2_with fail
  try rw [ei]
  with_reducible refine H5.out.mono ?_
  rintro q_ w' ⟨rfl, rfl⟩
  go_wp2_with fail
  try rw [ei]
  with_reducible refine H2.out.mono ?_
  rintro q_ w' ⟨rfl, rfl⟩
  go_wp2_with fail
  try rw [ei]
  with_reducible refine H6.out.mono ?_
  rintro q_ w' ⟨rfl, rfl⟩
  go_wp2_with fail
  go_ret
  exact ⟨rfl, rfl⟩
theorem rdot_c (s : Value) (F : M) (t x y : Int) (hx0 : -9223372036854775808 ≤ x) (hx1 : x ≤ 9223372036854775807) (hy0 : -9223372036854775808 ≤ y) (hy1 : y ≤ 9223372036854775807)  (w : World) (h : Mem w s F) : Calls Try.prog 74 #[s, .int .i64 t, .int .i64 x, .int .i64 y] w fun q_ w' => q_ = .returned (.int .u8 (dotV F t x y)) ∧ w = w' := by
  by_cases h0 : t < 0
  · rw [show dotV F t x y = 0 from if_pos (Or.inl h0)]
    exact rdot_lo s F t x y hx0 hx1 hy0 hy1 h0 w
  · by_cases h1 : 383 < t
    · rw [show dotV F t x y = 0 from if_pos (Or.inr h1)]
      exact rdot_hi s F t x y hx0 hx1 hy0 hy1 h1 w
    · obtain ⟨n, rfl⟩ := Int.eq_ofNat_of_zero_le (show 0 ≤ t by omega)
      exact rdot_in s F n x y hx0 hx1 hy0 hy1 (by omega) w h
set_option maxHeartbeats 1000000 in
theorem rshade_c (p k : Int) (h0 : 0 ≤ p) (h1 : p < 256) (g0 : 0 ≤ k) (g1 : k < 256) (w : World) : Calls Try.prog 61 #[.int .u8 p, .int .u8 k] w fun q_ w' => q_ = .returned (.int .u8 (shadeV p k)) ∧ w = w' := by
  obtain ⟨j, hj⟩ : ∃ j : Nat, k % 4 = (j : Int) := ⟨(k % 4).toNat, by omega⟩
  have hj2 : k.tmod 4 = (j : Int) := by rw [Int.tmod_eq_emod_of_nonneg g0]; exact hj
  have j4 : j < 4 := by omega
  have T1 := bit_c p (j * 2) h0 h1 (by omega) w
  have T2 := bit_c p (j * 2 + 1) h0 h1 (by omega) w
  have ev : shadeV p k = bit p (j * 2) + 2 * bit p (j * 2 + 1) := by
    unfold shadeV
    rw [hj, show (2 * (j : Int)).toNat = j * 2 by omega]
  have c1 := bit_bd p (j * 2)
  have c2 := bit_bd p (j * 2 + 1)
  rw [ev]
  generalize bit p (j * 2) = r1 at T1 c1 ⊢
  generalize bit p (j * 2 + 1) = r2 at T2 c2 ⊢
  rw [show ((j * 2 : Nat) : Int) = (j : Int) * 2 by omega] at T1
  rw [show ((j * 2 + 1 : Nat) : Int) = (j : Int) * 2 + 1 by omega] at T2
  have H1 := Lib.hid T1
  have H2 := Lib.hid T2
  clear T1 T2 ev
  go_enter Try.func61, Try.ntmps61
  go_wp2_with fail
  with_reducible refine H1.out.mono ?_
  rintro q_ w' ⟨rfl, rfl⟩
  go_wp2_with fail
  with_reducible refine H2.out.mono ?_
  rintro q_ w' ⟨rfl, rfl⟩
  go_wp2_with fail
  go_ret
  exact ⟨rfl, rfl⟩
end Go.Proofs.Ytpfbodmadmneiaa
