/-
  What ops.low and ops.word return: two and four digits: for every world in which the table of package math/bits is as its text lays it.
-/
import Derived.Test.YtaggebfcfebomaaDoorFmt
namespace Go.Proofs.YtaggebfcfebomaaDoor
open Go.ChangeShapes Go.WideShapes Go.ChangeAt Go.RowKit
set_option linter.unusedVariables false
set_option maxRecDepth 100000 in
set_option maxHeartbeats 2000000 in
theorem fu_c (u k : Nat) (hk : k ≤ 5) (hu : u < 1048576) (hbig : ∀ j, j < k → 16 ≤ sh u j) (hsm : sh u k < 16) (w : World) (h : Tz w) : Calls Tryd.prog 79 #[.int .u64 u, .int .i64 16] w fun e w' => e = .returned (.string ⟨(hexs u (k + 1)).toArray⟩) ∧ Below w.heap.size w w' := by
  have H := Lib.hid (fmt_c u k hk hu hbig hsm w h)
  clear h hbig
  go_enter Tryd.func79, Tryd.ntmps79
  go_wp2_with fail
  refine H.out.mono ?_
  rintro e w' ⟨rfl, hb⟩
  have HB := Lib.hid hb
  clear hb
  go_wp2
  go_ret
  exact ⟨rfl, HB.out⟩
theorem fu2_c (u k : Nat) (hk : k ≤ 5) (hu : u < 1048576) (hbig : ∀ j, j < k → 16 ≤ sh u j) (hsm : sh u k < 16) (w : World) (h : Tz w) : Calls Tryd.prog 60 #[.int .u64 u, .int .i64 16] w fun e w' => e = .returned (.string ⟨(hexs u (k + 1)).toArray⟩) ∧ Below w.heap.size w w' := by
  have H := Lib.hid (fu_c u k hk hu hbig hsm w h)
  clear h hbig
  go_enter Tryd.func60, Tryd.ntmps60
  go_wp2_with fail
  refine H.out.mono ?_
  rintro e w' ⟨rfl, hb⟩
  have HB := Lib.hid hb
  clear hb
  go_wp2
  go_ret
  exact ⟨rfl, HB.out⟩
theorem or256 (n : Nat) (h : n < 65536) : bits .or .u64 256 ((n % 256 : Nat) : Int) = ((256 + n % 256 : Nat) : Int) := by
  rw [u64_or _ _ (by omega) (by omega) (by omega) (by omega)]
  have e1 : (256 : Int).toNat = 2 ^ 8 * 1 := rfl
  have e2 : ((n % 256 : Nat) : Int).toNat = n % 256 := rfl
  rw [e1, e2, ← Nat.two_pow_add_eq_or_of_lt (by omega)]
theorem or65536 (n : Nat) (h : n < 65536) : bits .or .u64 65536 (n : Int) = ((65536 + n : Nat) : Int) := by
  rw [u64_or _ _ (by omega) (by omega) (by omega) (by omega)]
  have e1 : (65536 : Int).toNat = 2 ^ 16 * 1 := rfl
  have e2 : (n : Int).toNat = n := rfl
  rw [e1, e2, ← Nat.two_pow_add_eq_or_of_lt (by omega)]
theorem and255 (n : Nat) (h : n < 65536) : bits .and .u16 (n : Int) 255 = ((n % 256 : Nat) : Int) := by
  rw [u16_and _ _ (by omega) (by omega) (by omega) (by omega)]
  have e : ((n : Int).toNat &&& (255 : Int).toNat) = n % 256 := Nat.and_two_pow_sub_one_eq_mod n 8
  rw [e]
theorem hexs3 (n : Nat) (h : n < 65536) : hexs (256 + n % 256) 3 = 49 :: hexs n 2 := by
  have e0 : sh (256 + n % 256) 2 % 16 = 1 := by unfold sh; omega
  have e1 : sh (256 + n % 256) 1 % 16 = sh n 1 % 16 := by unfold sh; omega
  have e2 : sh (256 + n % 256) 0 % 16 = sh n 0 % 16 := by unfold sh; omega
  simp only [hexs, e0, e1, e2]
  rfl
theorem hexs5 (n : Nat) (h : n < 65536) : hexs (65536 + n) 5 = 49 :: hexs n 4 := by
  have e0 : sh (65536 + n) 4 % 16 = 1 := by unfold sh; omega
  have e1 : sh (65536 + n) 3 % 16 = sh n 3 % 16 := by unfold sh; omega
  have e2 : sh (65536 + n) 2 % 16 = sh n 2 % 16 := by unfold sh; omega
  have e3 : sh (65536 + n) 1 % 16 = sh n 1 % 16 := by unfold sh; omega
  have e4 : sh (65536 + n) 0 % 16 = sh n 0 % 16 := by unfold sh; omega
  simp only [hexs, e0, e1, e2, e3, e4]
  rfl
theorem tail1 (a : UInt8) (L : List UInt8) : (⟨(a :: L).toArray⟩ : ByteArray).extract 1 (L.length + 1) = ⟨L.toArray⟩ := by
  apply ByteArray.ext
  simp
theorem big2 (n j : Nat) (hj : j < 2) : 16 ≤ sh (256 + n % 256) j := by
  have : j = 0 ∨ j = 1 := by omega
  rcases this with rfl | rfl <;> unfold sh <;> omega
theorem big4 (n j : Nat) (hj : j < 4) : 16 ≤ sh (65536 + n) j := by
  have : j = 0 ∨ j = 1 ∨ j = 2 ∨ j = 3 := by omega
  rcases this with rfl | rfl | rfl | rfl <;> unfold sh <;> omega
theorem lowfu (n : Nat) (h : n < 65536) (u : Int) (hu : u = ((256 + n % 256 : Nat) : Int)) (w : World) (hz : Tz w) : Calls Tryd.prog 60 #[.int .u64 u, .int .i64 16] w fun e w' => e = .returned (.string ⟨(49 :: hexs n 2).toArray⟩) ∧ Below w.heap.size w w' := by
  subst hu
  have H := fu2_c (256 + n % 256) 2 (by omega) (by omega) (big2 n) (by unfold sh; omega) w hz
  rwa [hexs3 n h] at H
theorem wordfu (n : Nat) (h : n < 65536) (u : Int) (hu : u = ((65536 + n : Nat) : Int)) (w : World) (hz : Tz w) : Calls Tryd.prog 60 #[.int .u64 u, .int .i64 16] w fun e w' => e = .returned (.string ⟨(49 :: hexs n 4).toArray⟩) ∧ Below w.heap.size w w' := by
  subst hu
  have H := fu2_c (65536 + n) 4 (by omega) (by omega) (big4 n) (by unfold sh; omega) w hz
  rwa [hexs5 n h] at H
set_option maxRecDepth 100000 in
theorem low_c (n : Nat) (h : n < 65536) (w : World) (hz : Tz w) : Calls Tryd.prog 45 #[.int .u16 n] w fun e w' => e = .returned (.string ⟨(hexs n 2).toArray⟩) ∧ Below w.heap.size w w' := by
  obtain ⟨m, hm⟩ : ∃ m : Int, m = ((n % 256 : Nat) : Int) := ⟨_, rfl⟩
  obtain ⟨u, hu⟩ : ∃ u : Int, u = ((256 + n % 256 : Nat) : Int) := ⟨_, rfl⟩
  have H := Lib.hid (lowfu n h u hu w hz)
  have ha := and255 n h
  have ho := or256 n h
  rw [← hm] at ha ho
  rw [← hu] at ho
  have m1 : 0 ≤ m := by omega
  have m2 : m < 256 := by omega
  clear hz hm hu
  generalize hexs n 2 = L at H ⊢
  go_enter Tryd.func45, Tryd.ntmps45
  go_wp2_with fail
  refine H.out.mono ?_
  rintro e w' ⟨rfl, hb⟩
  have HB := Lib.hid hb
  clear hb
  go_wp2
  go_ret
  refine ⟨?_, HB.out⟩
  rw [tail1]
  rfl
set_option maxRecDepth 100000 in
theorem word_c (n : Nat) (h : n < 65536) (w : World) (hz : Tz w) : Calls Tryd.prog 47 #[.int .u16 n] w fun e w' => e = .returned (.string ⟨(hexs n 4).toArray⟩) ∧ Below w.heap.size w w' := by
  obtain ⟨u, hu⟩ : ∃ u : Int, u = ((65536 + n : Nat) : Int) := ⟨_, rfl⟩
  have H := Lib.hid (wordfu n h u hu w hz)
  have ho := or65536 n h
  rw [← hu] at ho
  clear hz hu
  generalize hexs n 4 = L at H ⊢
  go_enter Tryd.func47, Tryd.ntmps47
  go_wp2_with fail
  refine H.out.mono ?_
  rintro e w' ⟨rfl, hb⟩
  have HB := Lib.hid hb
  clear hb
  go_wp2
  go_ret
  refine ⟨?_, HB.out⟩
  rw [tail1]
  rfl
end Go.Proofs.YtaggebfcfebomaaDoor
