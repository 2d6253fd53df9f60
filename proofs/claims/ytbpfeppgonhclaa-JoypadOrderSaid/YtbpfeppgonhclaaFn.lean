/-
  The lines of the program: for every joypad; no condition but that each number is a byte.
-/
import Derived.Test.YtbpfeppgonhclaaBase
import Derived.Deep.Cut
import Derived.BigQuiet
import Derived.Deep.LoopGhost
namespace Go.Proofs.Ytbpfeppgonhclaa
open Go.ChangeShapes Go.WideShapes Go.ChangeAt Go.RowKit
set_option linter.unusedVariables false
set_option linter.unusedSimpArgs false
set_option maxRecDepth 100000
set_option maxHeartbeats 1000000 in
theorem lines_00 (s d : Int) (hs : 0 ≤ s) (hs2 : s < 256) (hd : 0 ≤ d) (hd2 : d < 256) (g4 : s / 16 % 2 = 0) (g5 : s / 32 % 2 = 0) (w : World) : Calls Try.prog 18 #[.agg #[.int .u8 s, .int .u8 d]] w fun q_ w' => q_ = .returned (.int .u8 (lnV s d)) ∧ Below w.heap.size w w' := by
  have e1 : bits .and .u8 s 16 = 0 := (and16 s hs hs2).trans (by omega)
  have e2 : bits .and .u8 s 32 = 0 := (and32 s hs hs2).trans (by omega)
  have o1 := orz d hd hd2
  have o2 := orz (d / 16) (by omega) (by omega)
  have e3 := ln00 s d hd hd2 g4 g5
  clear g4 g5
  go_enter Try.func18, Try.ntmps18
  go_wp2
  all_goals exact bodyPost_ret (v := .int .u8 (lnV s d)) (by simp [results, Try.results18, go_sem, e3]) rfl ⟨rfl, by first | exact Below.refl _ _ | exact own1 _ _ | exact own2 _ _ _ | exact own3 _ _ _ _ | exact own4 _ _ _ _ _ | exact below_drewN (Below.refl _ _) _⟩
set_option maxHeartbeats 1000000 in
theorem lines_01 (s d : Int) (hs : 0 ≤ s) (hs2 : s < 256) (hd : 0 ≤ d) (hd2 : d < 256) (g4 : s / 16 % 2 = 0) (g5 : s / 32 % 2 = 1) (w : World) : Calls Try.prog 18 #[.agg #[.int .u8 s, .int .u8 d]] w fun q_ w' => q_ = .returned (.int .u8 (lnV s d)) ∧ Below w.heap.size w w' := by
  have e1 : bits .and .u8 s 16 = 0 := (and16 s hs hs2).trans (by omega)
  have e2 : bits .and .u8 s 32 = 32 := (and32 s hs hs2).trans (by omega)
  have o1 := orz d hd hd2
  have o2 := orz (d / 16) (by omega) (by omega)
  have e3 := ln01 s d hd hd2 g4 g5
  clear g4 g5
  go_enter Try.func18, Try.ntmps18
  go_wp2
  all_goals exact bodyPost_ret (v := .int .u8 (lnV s d)) (by simp [results, Try.results18, go_sem, e3]) rfl ⟨rfl, by first | exact Below.refl _ _ | exact own1 _ _ | exact own2 _ _ _ | exact own3 _ _ _ _ | exact own4 _ _ _ _ _ | exact below_drewN (Below.refl _ _) _⟩
set_option maxHeartbeats 1000000 in
theorem lines_10 (s d : Int) (hs : 0 ≤ s) (hs2 : s < 256) (hd : 0 ≤ d) (hd2 : d < 256) (g4 : s / 16 % 2 = 1) (g5 : s / 32 % 2 = 0) (w : World) : Calls Try.prog 18 #[.agg #[.int .u8 s, .int .u8 d]] w fun q_ w' => q_ = .returned (.int .u8 (lnV s d)) ∧ Below w.heap.size w w' := by
  have e1 : bits .and .u8 s 16 = 16 := (and16 s hs hs2).trans (by omega)
  have e2 : bits .and .u8 s 32 = 0 := (and32 s hs hs2).trans (by omega)
  have o1 := orz d hd hd2
  have o2 := orz (d / 16) (by omega) (by omega)
  have e3 := ln10 s d hd hd2 g4 g5
  clear g4 g5
  go_enter Try.func18, Try.ntmps18
  go_wp2
  all_goals exact bodyPost_ret (v := .int .u8 (lnV s d)) (by simp [results, Try.results18, go_sem, e3]) rfl ⟨rfl, by first | exact Below.refl _ _ | exact own1 _ _ | exact own2 _ _ _ | exact own3 _ _ _ _ | exact own4 _ _ _ _ _ | exact below_drewN (Below.refl _ _) _⟩
set_option maxHeartbeats 1000000 in
theorem lines_11 (s d : Int) (hs : 0 ≤ s) (hs2 : s < 256) (hd : 0 ≤ d) (hd2 : d < 256) (g4 : s / 16 % 2 = 1) (g5 : s / 32 % 2 = 1) (w : World) : Calls Try.prog 18 #[.agg #[.int .u8 s, .int .u8 d]] w fun q_ w' => q_ = .returned (.int .u8 (lnV s d)) ∧ Below w.heap.size w w' := by
  have e1 : bits .and .u8 s 16 = 16 := (and16 s hs hs2).trans (by omega)
  have e2 : bits .and .u8 s 32 = 32 := (and32 s hs hs2).trans (by omega)
  have o1 := orz d hd hd2
  have o2 := orz (d / 16) (by omega) (by omega)
  have e3 := ln11 s d g4 g5
  clear g4 g5
  go_enter Try.func18, Try.ntmps18
  go_wp2
  all_goals exact bodyPost_ret (v := .int .u8 (lnV s d)) (by simp [results, Try.results18, go_sem, e3]) rfl ⟨rfl, by first | exact Below.refl _ _ | exact own1 _ _ | exact own2 _ _ _ | exact own3 _ _ _ _ | exact own4 _ _ _ _ _ | exact below_drewN (Below.refl _ _) _⟩
theorem lines_c (s d : Int) (hs : 0 ≤ s) (hs2 : s < 256) (hd : 0 ≤ d) (hd2 : d < 256) (w : World) : Calls Try.prog 18 #[.agg #[.int .u8 s, .int .u8 d]] w fun q_ w' => q_ = .returned (.int .u8 (lnV s d)) ∧ Below w.heap.size w w' := by
  rcases (by omega : s / 16 % 2 = 0 ∨ s / 16 % 2 = 1) with g4 | g4
  · rcases (by omega : s / 32 % 2 = 0 ∨ s / 32 % 2 = 1) with g5 | g5
    · exact lines_00 s d hs hs2 hd hd2 g4 g5 w
    · exact lines_01 s d hs hs2 hd hd2 g4 g5 w
  · rcases (by omega : s / 32 % 2 = 0 ∨ s / 32 % 2 = 1) with g5 | g5
    · exact lines_10 s d hs hs2 hd hd2 g4 g5 w
    · exact lines_11 s d hs hs2 hd hd2 g4 g5 w
set_option maxHeartbeats 1000000 in
theorem falls_c (a b : Int) (r : Bool) (h : (bits .andNot .u8 a b != 0) = r) (w : World) : Calls Try.prog 19 #[.int .u8 a, .int .u8 b] w fun q_ w' => q_ = .returned (.bool r) ∧ w = w' := by
  go_enter Try.func19, Try.ntmps19
  go_wp2
  exact bodyPost_ret (v := .bool r) (by simp [results, Try.results19, go_sem, h]) rfl ⟨rfl, rfl⟩
set_option maxHeartbeats 1000000 in
theorem bit_n (x : Int) (hx : 0 ≤ x) (hx2 : x < 256) (n : Nat) (hn : n < 8) (w : World) : Calls Try.prog 20 #[.int .u8 x, .int .i64 n] w fun q_ w' => q_ = .returned (.bool (bt x (2 ^ n))) ∧ w = w' := by
  go_enter Try.func20, Try.ntmps20
  go_wp2
  go_loopg [5, 6] n (fun g' y i wr => ∃ t : Nat, t ≤ n ∧ g' + t = n ∧ i = .int .i64 t ∧ y = .int .i64 (x / 2 ^ t) ∧ w = wr)
  case atStart => exact ⟨0, by omega, by omega, rfl, by simp, rfl⟩
  case round =>
    obtain ⟨t, ht, hg, rfl, hy, rfl⟩ := hrel
    have TG := Lib.hid hg
    obtain ⟨z, hz⟩ : ∃ z, x / 2 ^ t = z := ⟨_, rfl⟩
    have p0 : (0 : Int) < 2 ^ t := Int.pow_pos (by decide)
    have z0 : 0 ≤ z := hz ▸ Int.ediv_nonneg hx (Int.le_of_lt p0)
    have z1 : z < 256 := by rw [← hz]; have := Int.ediv_le_self (b := 2 ^ t) hx; omega
    have z2 : z / 2 = x / 2 ^ (t + 1) := by rw [← hz, Int.ediv_ediv_of_nonneg (Int.le_of_lt p0), Int.pow_succ]
    rw [hz] at hy
    subst hy
    have Z2 := Lib.hid z2
    have HZ := Lib.hid hz
    have r1 : z.tdiv 2 = z / 2 := Int.tdiv_eq_ediv_of_nonneg z0
    have r2 : z.tmod 2 = z % 2 := Int.tmod_eq_emod_of_nonneg z0
    clear hg hz z2 p0
    by_cases hlt : t < n
    · go_wp2
      go_roundg (gk - 1)
      exact ⟨t + 1, by omega, by have := TG.out; omega, by simp, by rw [← Z2.out], rfl⟩
      case measure => have := TG.out; omega
    · have et : t = n := by omega
      subst et
      go_wp2
      exact bodyPost_ret (v := .bool (bt x (2 ^ t))) (by simp [results, Try.results20, go_sem, bt, HZ.out]) rfl ⟨rfl, rfl⟩
end Go.Proofs.Ytbpfeppgonhclaa
