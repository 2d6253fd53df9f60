/-
  The small functions of the program and of the document, each way: for every port; no condition but that each number fits.
-/
import Derived.Test.YtlgdfikmdlhobaaBase
import Derived.Deep.Cut
import Derived.BigQuiet
import Derived.WalkSmall
namespace Go.Proofs.Ytlgdfikmdlhobaa
open Go.ChangeShapes Go.WideShapes Go.ChangeAt Go.RowKit
set_option linter.unusedVariables false
set_option linter.unusedSimpArgs false
set_option maxRecDepth 100000
theorem shl1 (a : Int) (h1 : 0 ≤ a) (h2 : a < 256) : bits .or .u8 (a * 2 % 256) 1 = a % 128 * 2 + 1 := byte_all (P := fun a => bits .or .u8 (a * 2 % 256) 1 = a % 128 * 2 + 1) (by decide +kernel) a h1 h2
theorem andw (n : Int) : bits .and .i64 n 65535 = n % 65536 := by
  have h16 : (BitVec.ofInt 64 65535).toNat = 2 ^ 16 - 1 := by decide
  have key : (BitVec.ofInt 64 n &&& BitVec.ofInt 64 65535).toNat = (n % ((2 ^ 64 : Nat) : Int)).toNat % 2 ^ 16 := by
    rw [BitVec.toNat_and, BitVec.toNat_ofInt, h16, Nat.and_two_pow_sub_one_eq_mod]
  show IntKind.i64.wrap ((BitVec.ofInt 64 n &&& BitVec.ofInt 64 65535).toNat : Nat) = n % 65536
  rw [key, IntKind.wrap_i64]
  omega
set_option maxHeartbeats 1000000 in
theorem shift_0 (xd xc xl xb xn xs : Int) (hd : 0 ≤ xd) (hd2 : xd < 256) (hb : -1 ≤ xb) (hb2 : xb ≤ 9) (y z : Int) (hy : xd % 128 * 2 + 1 = y) (hz : xb - 1 = z) (g : 0 < z) (w : World) : Calls Try.prog 15 #[.agg #[.int .u8 xd, .int .u8 xc, .int .u8 xl, .int .i64 xb, .int .i64 xn, .int .i64 xs]] w fun q_ w' => q_ = .returned (.tuple #[.agg #[.int .u8 y, .int .u8 xc, .int .u8 xl, .int .i64 z, .int .i64 xn, .int .i64 xs], .bool false]) ∧ Below w.heap.size w w' := by
  have e1 := shl1 xd hd hd2
  rw [hy] at e1
  go_enter Try.func15, Try.ntmps15
  go_wp2
  all_goals exact bodyPost_ret (v := .tuple #[.agg #[.int .u8 y, .int .u8 xc, .int .u8 xl, .int .i64 z, .int .i64 xn, .int .i64 xs], .bool false]) (by simp [results, Try.results15, go_sem]) rfl ⟨rfl, by first | exact Below.refl _ _ | exact own1 _ _ | exact own2 _ _ _ | exact own3 _ _ _ _ | exact own4 _ _ _ _ _ | exact below_drewN (Below.refl _ _) _⟩
set_option maxHeartbeats 1000000 in
theorem shift_1 (xd xc xl xb xn xs : Int) (hd : 0 ≤ xd) (hd2 : xd < 256) (hc : 0 ≤ xc) (hc2 : xc < 256) (hb : -1 ≤ xb) (hb2 : xb ≤ 9) (y z u : Int) (hy : xd % 128 * 2 + 1 = y) (hz : xb - 1 = z) (g : ¬ 0 < z) (hu : xc % 128 = u) (w : World) : Calls Try.prog 15 #[.agg #[.int .u8 xd, .int .u8 xc, .int .u8 xl, .int .i64 xb, .int .i64 xn, .int .i64 xs]] w fun q_ w' => q_ = .returned (.tuple #[.agg #[.int .u8 y, .int .u8 u, .int .u8 xl, .int .i64 z, .int .i64 xn, .int .i64 xs], .bool true]) ∧ Below w.heap.size w w' := by
  have e1 := shl1 xd hd hd2
  rw [hy] at e1
  have e2 := (not128 xc hc hc2).trans hu
  go_enter Try.func15, Try.ntmps15
  go_wp2
  all_goals exact bodyPost_ret (v := .tuple #[.agg #[.int .u8 y, .int .u8 u, .int .u8 xl, .int .i64 z, .int .i64 xn, .int .i64 xs], .bool true]) (by simp [results, Try.results15, go_sem]) rfl ⟨rfl, by first | exact Below.refl _ _ | exact own1 _ _ | exact own2 _ _ _ | exact own3 _ _ _ _ | exact own4 _ _ _ _ _ | exact below_drewN (Below.refl _ _) _⟩
set_option maxHeartbeats 1000000 in
theorem send_0 (xd xc xl xb xn xs : Int) (hs : 0 ≤ xs) (hs2 : xs ≤ 65535) (y : Int) (hy : (xs + 1) % 65536 = y) (w : World) : Calls Try.prog 16 #[.agg #[.int .u8 xd, .int .u8 xc, .int .u8 xl, .int .i64 xb, .int .i64 xn, .int .i64 xs]] w fun q_ w' => q_ = .returned (.agg #[.int .u8 xd, .int .u8 xc, .int .u8 xd, .int .i64 8, .int .i64 0, .int .i64 y]) ∧ Below w.heap.size w w' := by
  have e1 := (andw (xs + 1)).trans hy
  go_enter Try.func16, Try.ntmps16
  go_wp2
  all_goals exact bodyPost_ret (v := .agg #[.int .u8 xd, .int .u8 xc, .int .u8 xd, .int .i64 8, .int .i64 0, .int .i64 y]) (by simp [results, Try.results16, go_sem]) rfl ⟨rfl, by first | exact Below.refl _ _ | exact own1 _ _ | exact own2 _ _ _ | exact own3 _ _ _ _ | exact own4 _ _ _ _ _ | exact below_drewN (Below.refl _ _) _⟩
set_option maxHeartbeats 1000000 in
theorem tick_0 (xd xc xl xb xn xs : Int) (g : xb ≤ 0) (w : World) : Calls Try.prog 9 #[.agg #[.int .u8 xd, .int .u8 xc, .int .u8 xl, .int .i64 xb, .int .i64 xn, .int .i64 xs]] w fun q_ w' => q_ = .returned (.tuple #[.agg #[.int .u8 xd, .int .u8 xc, .int .u8 xl, .int .i64 xb, .int .i64 xn, .int .i64 xs], .bool false]) ∧ Below w.heap.size w w' := by
  go_enter Try.func9, Try.ntmps9
  go_wp2
  all_goals exact bodyPost_ret (v := .tuple #[.agg #[.int .u8 xd, .int .u8 xc, .int .u8 xl, .int .i64 xb, .int .i64 xn, .int .i64 xs], .bool false]) (by simp [results, Try.results9, go_sem]) rfl ⟨rfl, by first | exact Below.refl _ _ | exact own1 _ _ | exact own2 _ _ _ | exact own3 _ _ _ _ | exact own4 _ _ _ _ _ | exact below_drewN (Below.refl _ _) _⟩
set_option maxHeartbeats 1000000 in
theorem tick_1 (xd xc xl xb xn xs : Int) (hn : 0 ≤ xn) (hn2 : xn ≤ 127) (z : Int) (g : ¬ xb ≤ 0) (hz : xn + 1 = z) (g2 : ¬ z = 128) (w : World) : Calls Try.prog 9 #[.agg #[.int .u8 xd, .int .u8 xc, .int .u8 xl, .int .i64 xb, .int .i64 xn, .int .i64 xs]] w fun q_ w' => q_ = .returned (.tuple #[.agg #[.int .u8 xd, .int .u8 xc, .int .u8 xl, .int .i64 xb, .int .i64 z, .int .i64 xs], .bool false]) ∧ Below w.heap.size w w' := by
  go_enter Try.func9, Try.ntmps9
  go_wp2
  all_goals exact bodyPost_ret (v := .tuple #[.agg #[.int .u8 xd, .int .u8 xc, .int .u8 xl, .int .i64 xb, .int .i64 z, .int .i64 xs], .bool false]) (by simp [results, Try.results9, go_sem]) rfl ⟨rfl, by first | exact Below.refl _ _ | exact own1 _ _ | exact own2 _ _ _ | exact own3 _ _ _ _ | exact own4 _ _ _ _ _ | exact below_drewN (Below.refl _ _) _⟩
set_option maxHeartbeats 1000000 in
theorem rtick_0 (xd xc xl xb xn xs : Int) (g : xb < 1) (w : World) : Calls Try.prog 10 #[.agg #[.int .u8 xd, .int .u8 xc, .int .u8 xl, .int .i64 xb, .int .i64 xn, .int .i64 xs]] w fun q_ w' => q_ = .returned (.tuple #[.agg #[.int .u8 xd, .int .u8 xc, .int .u8 xl, .int .i64 xb, .int .i64 xn, .int .i64 xs], .bool false]) ∧ Below w.heap.size w w' := by
  go_enter Try.func10, Try.ntmps10
  go_wp2
  all_goals exact bodyPost_ret (v := .tuple #[.agg #[.int .u8 xd, .int .u8 xc, .int .u8 xl, .int .i64 xb, .int .i64 xn, .int .i64 xs], .bool false]) (by simp [results, Try.results10, go_sem]) rfl ⟨rfl, by first | exact Below.refl _ _ | exact own1 _ _ | exact own2 _ _ _ | exact own3 _ _ _ _ | exact own4 _ _ _ _ _ | exact below_drewN (Below.refl _ _) _⟩
set_option maxHeartbeats 1000000 in
theorem rtick_1 (xd xc xl xb xn xs : Int) (hn : 0 ≤ xn) (hn2 : xn ≤ 127) (z : Int) (g : ¬ xb < 1) (hz : xn + 1 = z) (g2 : ¬ z = 128) (w : World) : Calls Try.prog 10 #[.agg #[.int .u8 xd, .int .u8 xc, .int .u8 xl, .int .i64 xb, .int .i64 xn, .int .i64 xs]] w fun q_ w' => q_ = .returned (.tuple #[.agg #[.int .u8 xd, .int .u8 xc, .int .u8 xl, .int .i64 xb, .int .i64 z, .int .i64 xs], .bool false]) ∧ Below w.heap.size w w' := by
  go_enter Try.func10, Try.ntmps10
  go_wp2
  all_goals exact bodyPost_ret (v := .tuple #[.agg #[.int .u8 xd, .int .u8 xc, .int .u8 xl, .int .i64 xb, .int .i64 z, .int .i64 xs], .bool false]) (by simp [results, Try.results10, go_sem]) rfl ⟨rfl, by first | exact Below.refl _ _ | exact own1 _ _ | exact own2 _ _ _ | exact own3 _ _ _ _ | exact own4 _ _ _ _ _ | exact below_drewN (Below.refl _ _) _⟩
set_option maxHeartbeats 1000000 in
theorem rtick_2 (xd xc xl xb xn xs : Int) (hd : 0 ≤ xd) (hd2 : xd < 256) (hn : 0 ≤ xn) (hn2 : xn ≤ 127) (hb : -1 ≤ xb) (hb2 : xb ≤ 9) (y z : Int) (g : ¬ xb < 1) (g2 : xn + 1 = 128) (hy : xd % 128 * 2 + 1 = y) (hz : xb - 1 = z) (g3 : 0 < z) (w : World) : Calls Try.prog 10 #[.agg #[.int .u8 xd, .int .u8 xc, .int .u8 xl, .int .i64 xb, .int .i64 xn, .int .i64 xs]] w fun q_ w' => q_ = .returned (.tuple #[.agg #[.int .u8 y, .int .u8 xc, .int .u8 xl, .int .i64 z, .int .i64 0, .int .i64 xs], .bool false]) ∧ Below w.heap.size w w' := by
  have r1 : xd.tmod 128 = xd % 128 := Int.tmod_eq_emod_of_nonneg hd
  have e1 : IntKind.u8.wrap y = y := IntWalk.u8_in y (by omega)
  have q : 0 ≤ y ∧ y < 256 := by omega
  go_enter Try.func10, Try.ntmps10
  go_wp2
  all_goals exact bodyPost_ret (v := .tuple #[.agg #[.int .u8 y, .int .u8 xc, .int .u8 xl, .int .i64 z, .int .i64 0, .int .i64 xs], .bool false]) (by simp [results, Try.results10, go_sem]) rfl ⟨rfl, by first | exact Below.refl _ _ | exact own1 _ _ | exact own2 _ _ _ | exact own3 _ _ _ _ | exact own4 _ _ _ _ _ | exact below_drewN (Below.refl _ _) _⟩
set_option maxHeartbeats 1000000 in
theorem rtick_3 (xd xc xl xb xn xs : Int) (hd : 0 ≤ xd) (hd2 : xd < 256) (hc : 0 ≤ xc) (hc2 : xc < 256) (hn : 0 ≤ xn) (hn2 : xn ≤ 127) (hb : -1 ≤ xb) (hb2 : xb ≤ 9) (y z u : Int) (g : ¬ xb < 1) (g2 : xn + 1 = 128) (hy : xd % 128 * 2 + 1 = y) (hz : xb - 1 = z) (g3 : ¬ 0 < z) (hu : xc % 128 = u) (w : World) : Calls Try.prog 10 #[.agg #[.int .u8 xd, .int .u8 xc, .int .u8 xl, .int .i64 xb, .int .i64 xn, .int .i64 xs]] w fun q_ w' => q_ = .returned (.tuple #[.agg #[.int .u8 y, .int .u8 u, .int .u8 xl, .int .i64 z, .int .i64 0, .int .i64 xs], .bool true]) ∧ Below w.heap.size w w' := by
  have r1 : xd.tmod 128 = xd % 128 := Int.tmod_eq_emod_of_nonneg hd
  have e1 : IntKind.u8.wrap y = y := IntWalk.u8_in y (by omega)
  have q : 0 ≤ y ∧ y < 256 := by omega
  go_enter Try.func10, Try.ntmps10
  go_wp2
  all_goals exact bodyPost_ret (v := .tuple #[.agg #[.int .u8 y, .int .u8 u, .int .u8 xl, .int .i64 z, .int .i64 0, .int .i64 xs], .bool true]) (by simp [results, Try.results10, go_sem]) rfl ⟨rfl, by first | exact Below.refl _ _ | exact own1 _ _ | exact own2 _ _ _ | exact own3 _ _ _ _ | exact own4 _ _ _ _ _ | exact below_drewN (Below.refl _ _) _⟩
set_option maxHeartbeats 1000000 in
theorem read_0 (xd xc xl xb xn xs : Int) (w : World) : Calls Try.prog 13 #[.agg #[.int .u8 xd, .int .u8 xc, .int .u8 xl, .int .i64 xb, .int .i64 xn, .int .i64 xs], .int .i64 0] w fun q_ w' => q_ = .returned (.int .u8 xd) ∧ Below w.heap.size w w' := by
  go_enter Try.func13, Try.ntmps13
  go_wp2
  all_goals exact bodyPost_ret (v := .int .u8 xd) (by simp [results, Try.results13, go_sem]) rfl ⟨rfl, by first | exact Below.refl _ _ | exact own1 _ _ | exact own2 _ _ _ | exact own3 _ _ _ _ | exact own4 _ _ _ _ _ | exact below_drewN (Below.refl _ _) _⟩
set_option maxHeartbeats 1000000 in
theorem read_1 (xd xc xl xb xn xs : Int) (hc : 0 ≤ xc) (hc2 : xc < 256) (y : Int) (hy : xc / 128 * 128 + 126 + xc % 2 = y) (w : World) : Calls Try.prog 13 #[.agg #[.int .u8 xd, .int .u8 xc, .int .u8 xl, .int .i64 xb, .int .i64 xn, .int .i64 xs], .int .i64 1] w fun q_ w' => q_ = .returned (.int .u8 y) ∧ Below w.heap.size w w' := by
  have e1 := (or126 xc hc hc2).trans hy
  go_enter Try.func13, Try.ntmps13
  go_wp2
  all_goals exact bodyPost_ret (v := .int .u8 y) (by simp [results, Try.results13, go_sem]) rfl ⟨rfl, by first | exact Below.refl _ _ | exact own1 _ _ | exact own2 _ _ _ | exact own3 _ _ _ _ | exact own4 _ _ _ _ _ | exact below_drewN (Below.refl _ _) _⟩
set_option maxHeartbeats 1000000 in
theorem read_2 (xd xc xl xb xn xs : Int) (k : Int) (g0 : ¬ k = 0) (g1 : ¬ k = 1) (w : World) : Calls Try.prog 13 #[.agg #[.int .u8 xd, .int .u8 xc, .int .u8 xl, .int .i64 xb, .int .i64 xn, .int .i64 xs], .int .i64 k] w fun q_ w' => q_ = .returned (.int .u8 255) ∧ Below w.heap.size w w' := by
  go_enter Try.func13, Try.ntmps13
  go_wp2
  all_goals exact bodyPost_ret (v := .int .u8 255) (by simp [results, Try.results13, go_sem]) rfl ⟨rfl, by first | exact Below.refl _ _ | exact own1 _ _ | exact own2 _ _ _ | exact own3 _ _ _ _ | exact own4 _ _ _ _ _ | exact below_drewN (Below.refl _ _) _⟩
set_option maxHeartbeats 1000000 in
theorem rread_0 (xd xc xl xb xn xs : Int) (w : World) : Calls Try.prog 14 #[.agg #[.int .u8 xd, .int .u8 xc, .int .u8 xl, .int .i64 xb, .int .i64 xn, .int .i64 xs], .int .i64 0] w fun q_ w' => q_ = .returned (.int .u8 xd) ∧ Below w.heap.size w w' := by
  go_enter Try.func14, Try.ntmps14
  go_wp2
  all_goals exact bodyPost_ret (v := .int .u8 xd) (by simp [results, Try.results14, go_sem]) rfl ⟨rfl, by first | exact Below.refl _ _ | exact own1 _ _ | exact own2 _ _ _ | exact own3 _ _ _ _ | exact own4 _ _ _ _ _ | exact below_drewN (Below.refl _ _) _⟩
set_option maxHeartbeats 1000000 in
theorem rread_1 (xd xc xl xb xn xs : Int) (hc : 0 ≤ xc) (hc2 : xc < 256) (y : Int) (hy : xc / 128 * 128 + 126 + xc % 2 = y) (w : World) : Calls Try.prog 14 #[.agg #[.int .u8 xd, .int .u8 xc, .int .u8 xl, .int .i64 xb, .int .i64 xn, .int .i64 xs], .int .i64 1] w fun q_ w' => q_ = .returned (.int .u8 y) ∧ Below w.heap.size w w' := by
  go_enter Try.func14, Try.ntmps14
  go_wp2
  all_goals exact bodyPost_ret (v := .int .u8 y) (by simp [results, Try.results14, go_sem]) rfl ⟨rfl, by first | exact Below.refl _ _ | exact own1 _ _ | exact own2 _ _ _ | exact own3 _ _ _ _ | exact own4 _ _ _ _ _ | exact below_drewN (Below.refl _ _) _⟩
set_option maxHeartbeats 1000000 in
theorem rread_2 (xd xc xl xb xn xs : Int) (k : Int) (g0 : ¬ k = 0) (g1 : ¬ k = 1) (w : World) : Calls Try.prog 14 #[.agg #[.int .u8 xd, .int .u8 xc, .int .u8 xl, .int .i64 xb, .int .i64 xn, .int .i64 xs], .int .i64 k] w fun q_ w' => q_ = .returned (.int .u8 255) ∧ Below w.heap.size w w' := by
  go_enter Try.func14, Try.ntmps14
  go_wp2
  all_goals exact bodyPost_ret (v := .int .u8 255) (by simp [results, Try.results14, go_sem]) rfl ⟨rfl, by first | exact Below.refl _ _ | exact own1 _ _ | exact own2 _ _ _ | exact own3 _ _ _ _ | exact own4 _ _ _ _ _ | exact below_drewN (Below.refl _ _) _⟩
set_option maxHeartbeats 1000000 in
theorem write_0 (xd xc xl xb xn xs : Int) (x : Int) (hx : 0 ≤ x) (hx2 : x < 256) (w : World) : Calls Try.prog 11 #[.agg #[.int .u8 xd, .int .u8 xc, .int .u8 xl, .int .i64 xb, .int .i64 xn, .int .i64 xs], .int .i64 0, .int .u8 x] w fun q_ w' => q_ = .returned (.agg #[.int .u8 x, .int .u8 xc, .int .u8 xl, .int .i64 xb, .int .i64 xn, .int .i64 xs]) ∧ Below w.heap.size w w' := by
  go_enter Try.func11, Try.ntmps11
  go_wp2
  all_goals exact bodyPost_ret (v := .agg #[.int .u8 x, .int .u8 xc, .int .u8 xl, .int .i64 xb, .int .i64 xn, .int .i64 xs]) (by simp [results, Try.results11, go_sem]) rfl ⟨rfl, by first | exact Below.refl _ _ | exact own1 _ _ | exact own2 _ _ _ | exact own3 _ _ _ _ | exact own4 _ _ _ _ _ | exact below_drewN (Below.refl _ _) _⟩
set_option maxHeartbeats 1000000 in
theorem write_1 (xd xc xl xb xn xs : Int) (x : Int) (hx : 0 ≤ x) (hx2 : x < 256) (y : Int) (hy : x / 128 * 128 + x % 2 = y) (g : ¬ y = 129) (w : World) : Calls Try.prog 11 #[.agg #[.int .u8 xd, .int .u8 xc, .int .u8 xl, .int .i64 xb, .int .i64 xn, .int .i64 xs], .int .i64 1, .int .u8 x] w fun q_ w' => q_ = .returned (.agg #[.int .u8 xd, .int .u8 y, .int .u8 xl, .int .i64 0, .int .i64 xn, .int .i64 xs]) ∧ Below w.heap.size w w' := by
  have e1 := (and129 x hx hx2).trans hy
  go_enter Try.func11, Try.ntmps11
  go_wp2
  all_goals exact bodyPost_ret (v := .agg #[.int .u8 xd, .int .u8 y, .int .u8 xl, .int .i64 0, .int .i64 xn, .int .i64 xs]) (by simp [results, Try.results11, go_sem]) rfl ⟨rfl, by first | exact Below.refl _ _ | exact own1 _ _ | exact own2 _ _ _ | exact own3 _ _ _ _ | exact own4 _ _ _ _ _ | exact below_drewN (Below.refl _ _) _⟩
set_option maxHeartbeats 1000000 in
theorem write_3 (xd xc xl xb xn xs : Int) (x : Int) (hx : 0 ≤ x) (hx2 : x < 256) (k : Int) (g0 : ¬ k = 0) (g1 : ¬ k = 1) (w : World) : Calls Try.prog 11 #[.agg #[.int .u8 xd, .int .u8 xc, .int .u8 xl, .int .i64 xb, .int .i64 xn, .int .i64 xs], .int .i64 k, .int .u8 x] w fun q_ w' => q_ = .returned (.agg #[.int .u8 xd, .int .u8 xc, .int .u8 xl, .int .i64 xb, .int .i64 xn, .int .i64 xs]) ∧ Below w.heap.size w w' := by
  go_enter Try.func11, Try.ntmps11
  go_wp2
  all_goals exact bodyPost_ret (v := .agg #[.int .u8 xd, .int .u8 xc, .int .u8 xl, .int .i64 xb, .int .i64 xn, .int .i64 xs]) (by simp [results, Try.results11, go_sem]) rfl ⟨rfl, by first | exact Below.refl _ _ | exact own1 _ _ | exact own2 _ _ _ | exact own3 _ _ _ _ | exact own4 _ _ _ _ _ | exact below_drewN (Below.refl _ _) _⟩
set_option maxHeartbeats 1000000 in
theorem rwrite_0 (xd xc xl xb xn xs : Int) (x : Int) (hx : 0 ≤ x) (hx2 : x < 256) (w : World) : Calls Try.prog 12 #[.agg #[.int .u8 xd, .int .u8 xc, .int .u8 xl, .int .i64 xb, .int .i64 xn, .int .i64 xs], .int .i64 0, .int .u8 x] w fun q_ w' => q_ = .returned (.agg #[.int .u8 x, .int .u8 xc, .int .u8 xl, .int .i64 xb, .int .i64 xn, .int .i64 xs]) ∧ Below w.heap.size w w' := by
  go_enter Try.func12, Try.ntmps12
  go_wp2
  all_goals exact bodyPost_ret (v := .agg #[.int .u8 x, .int .u8 xc, .int .u8 xl, .int .i64 xb, .int .i64 xn, .int .i64 xs]) (by simp [results, Try.results12, go_sem]) rfl ⟨rfl, by first | exact Below.refl _ _ | exact own1 _ _ | exact own2 _ _ _ | exact own3 _ _ _ _ | exact own4 _ _ _ _ _ | exact below_drewN (Below.refl _ _) _⟩
set_option maxHeartbeats 1000000 in
theorem rwrite_1a (xd xc xl xb xn xs : Int) (x : Int) (hx : 0 ≤ x) (hx2 : x < 256) (y : Int) (hy : x / 128 * 128 + x % 2 = y) (g : ¬ x / 128 = 1) (w : World) : Calls Try.prog 12 #[.agg #[.int .u8 xd, .int .u8 xc, .int .u8 xl, .int .i64 xb, .int .i64 xn, .int .i64 xs], .int .i64 1, .int .u8 x] w fun q_ w' => q_ = .returned (.agg #[.int .u8 xd, .int .u8 y, .int .u8 xl, .int .i64 0, .int .i64 xn, .int .i64 xs]) ∧ Below w.heap.size w w' := by
  go_enter Try.func12, Try.ntmps12
  go_wp2
  all_goals exact bodyPost_ret (v := .agg #[.int .u8 xd, .int .u8 y, .int .u8 xl, .int .i64 0, .int .i64 xn, .int .i64 xs]) (by simp [results, Try.results12, go_sem]) rfl ⟨rfl, by first | exact Below.refl _ _ | exact own1 _ _ | exact own2 _ _ _ | exact own3 _ _ _ _ | exact own4 _ _ _ _ _ | exact below_drewN (Below.refl _ _) _⟩
set_option maxHeartbeats 1000000 in
theorem rwrite_1b (xd xc xl xb xn xs : Int) (x : Int) (hx : 0 ≤ x) (hx2 : x < 256) (y : Int) (g : x / 128 = 1) (g2 : ¬ x % 2 = 1) (hy : 128 + x % 2 = y) (w : World) : Calls Try.prog 12 #[.agg #[.int .u8 xd, .int .u8 xc, .int .u8 xl, .int .i64 xb, .int .i64 xn, .int .i64 xs], .int .i64 1, .int .u8 x] w fun q_ w' => q_ = .returned (.agg #[.int .u8 xd, .int .u8 y, .int .u8 xl, .int .i64 0, .int .i64 xn, .int .i64 xs]) ∧ Below w.heap.size w w' := by
  go_enter Try.func12, Try.ntmps12
  go_wp2
  all_goals exact bodyPost_ret (v := .agg #[.int .u8 xd, .int .u8 y, .int .u8 xl, .int .i64 0, .int .i64 xn, .int .i64 xs]) (by simp [results, Try.results12, go_sem]) rfl ⟨rfl, by first | exact Below.refl _ _ | exact own1 _ _ | exact own2 _ _ _ | exact own3 _ _ _ _ | exact own4 _ _ _ _ _ | exact below_drewN (Below.refl _ _) _⟩
set_option maxHeartbeats 1000000 in
theorem rwrite_2 (xd xc xl xb xn xs : Int) (x : Int) (hx : 0 ≤ x) (hx2 : x < 256) (hs : 0 ≤ xs) (hs2 : xs ≤ 65535) (z : Int) (g : x / 128 = 1) (g2 : x % 2 = 1) (hz : (xs + 1) % 65536 = z) (w : World) : Calls Try.prog 12 #[.agg #[.int .u8 xd, .int .u8 xc, .int .u8 xl, .int .i64 xb, .int .i64 xn, .int .i64 xs], .int .i64 1, .int .u8 x] w fun q_ w' => q_ = .returned (.agg #[.int .u8 xd, .int .u8 129, .int .u8 xd, .int .i64 8, .int .i64 0, .int .i64 z]) ∧ Below w.heap.size w w' := by
  go_enter Try.func12, Try.ntmps12
  go_wp2
  all_goals exact bodyPost_ret (v := .agg #[.int .u8 xd, .int .u8 129, .int .u8 xd, .int .i64 8, .int .i64 0, .int .i64 z]) (by simp [results, Try.results12, go_sem]) rfl ⟨rfl, by first | exact Below.refl _ _ | exact own1 _ _ | exact own2 _ _ _ | exact own3 _ _ _ _ | exact own4 _ _ _ _ _ | exact below_drewN (Below.refl _ _) _⟩
set_option maxHeartbeats 1000000 in
theorem rwrite_3 (xd xc xl xb xn xs : Int) (x : Int) (hx : 0 ≤ x) (hx2 : x < 256) (k : Int) (g0 : ¬ k = 0) (g1 : ¬ k = 1) (w : World) : Calls Try.prog 12 #[.agg #[.int .u8 xd, .int .u8 xc, .int .u8 xl, .int .i64 xb, .int .i64 xn, .int .i64 xs], .int .i64 k, .int .u8 x] w fun q_ w' => q_ = .returned (.agg #[.int .u8 xd, .int .u8 xc, .int .u8 xl, .int .i64 xb, .int .i64 xn, .int .i64 xs]) ∧ Below w.heap.size w w' := by
  go_enter Try.func12, Try.ntmps12
  go_wp2
  all_goals exact bodyPost_ret (v := .agg #[.int .u8 xd, .int .u8 xc, .int .u8 xl, .int .i64 xb, .int .i64 xn, .int .i64 xs]) (by simp [results, Try.results12, go_sem]) rfl ⟨rfl, by first | exact Below.refl _ _ | exact own1 _ _ | exact own2 _ _ _ | exact own3 _ _ _ _ | exact own4 _ _ _ _ _ | exact below_drewN (Below.refl _ _) _⟩
end Go.Proofs.Ytlgdfikmdlhobaa
