/-
  Each way of a write of the program: for every map and every write; no condition but that each number fits.
-/
import Derived.Test.YtafmmffgenolaaaBits
namespace Go.Proofs.Ytafmmffgenolaaa
open Go.ChangeShapes Go.WideShapes Go.ChangeAt Go.RowKit
set_option linter.unusedVariables false
set_option linter.unusedSimpArgs false
set_option maxRecDepth 100000
set_option maxHeartbeats 1000000 in
theorem w13_0 (k n r lo hi la a x : Int) (on mo : Bool) (w : World) (ha : 0 ≤ a) (ha2 : a < 65536) (g0 : 0 ≤ a) (g1 : a < 8192) (hx : 0 ≤ x) (hx2 : x < 256) (hl : 0 ≤ lo) (hl2 : lo < 512) (ha3 : 0 ≤ la) : Calls Try.prog 23 #[.agg #[.int .i64 k, .int .i64 n, .int .i64 r, .bool on, .bool mo, .int .i64 lo, .int .i64 hi, .int .u8 la], .int .u16 a, .int .u8 x] w fun e w' => e = .returned (.agg #[.int .i64 k, .int .i64 n, .int .i64 r, .bool ((x % 16 == 10)), .bool mo, .int .i64 lo, .int .i64 hi, .int .u8 la]) ∧ Below w.heap.size w w' := by
  have e1 := and15 x hx hx2
  go_enter Try.func23, Try.ntmps23
  go_wp2
  all_goals exact bodyPost_ret (v := .agg #[.int .i64 k, .int .i64 n, .int .i64 r, .bool ((x % 16 == 10)), .bool mo, .int .i64 lo, .int .i64 hi, .int .u8 la]) (by simp [results, Try.results23, go_sem]) rfl ⟨rfl, by first | exact Below.refl _ _ | exact own1 _ _ | exact own2 _ _ _ | exact own3 _ _ _ _ | exact own4 _ _ _ _ _⟩
set_option maxHeartbeats 1000000 in
theorem w13_1 (k n r lo hi la a x : Int) (on mo : Bool) (w : World) (ha : 0 ≤ a) (ha2 : a < 65536) (g0 : 8192 ≤ a) (g1 : a < 16384) (hx : 0 ≤ x) (hx2 : x < 256) (hl : 0 ≤ lo) (hl2 : lo < 512) (ha3 : 0 ≤ la) (y : Int) (hy : x % 32 = y) (hy0 : y = 0) : Calls Try.prog 23 #[.agg #[.int .i64 k, .int .i64 n, .int .i64 r, .bool on, .bool mo, .int .i64 lo, .int .i64 hi, .int .u8 la], .int .u16 a, .int .u8 x] w fun e w' => e = .returned (.agg #[.int .i64 k, .int .i64 n, .int .i64 r, .bool on, .bool mo, .int .i64 1, .int .i64 hi, .int .u8 la]) ∧ Below w.heap.size w w' := by
  have e1 := (and31 x hx hx2).trans hy
  subst hy0
  go_enter Try.func23, Try.ntmps23
  go_wp2
  all_goals exact bodyPost_ret (v := .agg #[.int .i64 k, .int .i64 n, .int .i64 r, .bool on, .bool mo, .int .i64 1, .int .i64 hi, .int .u8 la]) (by simp [results, Try.results23, go_sem]) rfl ⟨rfl, by first | exact Below.refl _ _ | exact own1 _ _ | exact own2 _ _ _ | exact own3 _ _ _ _ | exact own4 _ _ _ _ _⟩
set_option maxHeartbeats 1000000 in
theorem w13_2 (k n r lo hi la a x : Int) (on mo : Bool) (w : World) (ha : 0 ≤ a) (ha2 : a < 65536) (g0 : 8192 ≤ a) (g1 : a < 16384) (hx : 0 ≤ x) (hx2 : x < 256) (hl : 0 ≤ lo) (hl2 : lo < 512) (ha3 : 0 ≤ la) (y : Int) (hy : x % 32 = y) (hy0 : 1 ≤ y) : Calls Try.prog 23 #[.agg #[.int .i64 k, .int .i64 n, .int .i64 r, .bool on, .bool mo, .int .i64 lo, .int .i64 hi, .int .u8 la], .int .u16 a, .int .u8 x] w fun e w' => e = .returned (.agg #[.int .i64 k, .int .i64 n, .int .i64 r, .bool on, .bool mo, .int .i64 y, .int .i64 hi, .int .u8 la]) ∧ Below w.heap.size w w' := by
  have e1 := (and31 x hx hx2).trans hy
  go_enter Try.func23, Try.ntmps23
  go_wp2
  all_goals exact bodyPost_ret (v := .agg #[.int .i64 k, .int .i64 n, .int .i64 r, .bool on, .bool mo, .int .i64 y, .int .i64 hi, .int .u8 la]) (by simp [results, Try.results23, go_sem]) rfl ⟨rfl, by first | exact Below.refl _ _ | exact own1 _ _ | exact own2 _ _ _ | exact own3 _ _ _ _ | exact own4 _ _ _ _ _⟩
set_option maxHeartbeats 1000000 in
theorem w13_3 (k n r lo hi la a x : Int) (on mo : Bool) (w : World) (ha : 0 ≤ a) (ha2 : a < 65536) (g0 : 16384 ≤ a) (g1 : a < 24576) (hx : 0 ≤ x) (hx2 : x < 256) (hl : 0 ≤ lo) (hl2 : lo < 512) (ha3 : 0 ≤ la) : Calls Try.prog 23 #[.agg #[.int .i64 k, .int .i64 n, .int .i64 r, .bool on, .bool mo, .int .i64 lo, .int .i64 hi, .int .u8 la], .int .u16 a, .int .u8 x] w fun e w' => e = .returned (.agg #[.int .i64 k, .int .i64 n, .int .i64 r, .bool on, .bool mo, .int .i64 lo, .int .i64 ((x % 4)), .int .u8 la]) ∧ Below w.heap.size w w' := by
  have e1 := and3 x hx hx2
  go_enter Try.func23, Try.ntmps23
  go_wp2
  all_goals exact bodyPost_ret (v := .agg #[.int .i64 k, .int .i64 n, .int .i64 r, .bool on, .bool mo, .int .i64 lo, .int .i64 ((x % 4)), .int .u8 la]) (by simp [results, Try.results23, go_sem]) rfl ⟨rfl, by first | exact Below.refl _ _ | exact own1 _ _ | exact own2 _ _ _ | exact own3 _ _ _ _ | exact own4 _ _ _ _ _⟩
set_option maxHeartbeats 1000000 in
theorem w13_4 (k n r lo hi la a x : Int) (on mo : Bool) (w : World) (ha : 0 ≤ a) (ha2 : a < 65536) (g0 : 0 ≤ a) (g1 : a < 8192) (hx : 0 ≤ x) (hx2 : x < 256) (hl : 0 ≤ lo) (hl2 : lo < 512) (ha3 : 0 ≤ la) : Calls Try.prog 25 #[.agg #[.int .i64 k, .int .i64 n, .int .i64 r, .bool on, .bool mo, .int .i64 lo, .int .i64 hi, .int .u8 la], .int .u16 a, .int .u8 x] w fun e w' => e = .returned (.tuple #[.agg #[.int .i64 k, .int .i64 n, .int .i64 r, .bool ((x % 16 == 10)), .bool mo, .int .i64 lo, .int .i64 hi, .int .u8 la], .bool (false)]) ∧ Below w.heap.size w w' := by
  have e1 := and15 x hx hx2
  go_enter Try.func25, Try.ntmps25
  go_wp2
  all_goals exact bodyPost_ret (v := .tuple #[.agg #[.int .i64 k, .int .i64 n, .int .i64 r, .bool ((x % 16 == 10)), .bool mo, .int .i64 lo, .int .i64 hi, .int .u8 la], .bool (false)]) (by simp [results, Try.results25, go_sem]) rfl ⟨rfl, by first | exact Below.refl _ _ | exact own1 _ _ | exact own2 _ _ _ | exact own3 _ _ _ _ | exact own4 _ _ _ _ _⟩
set_option maxHeartbeats 1000000 in
theorem w13_5 (k n r lo hi la a x : Int) (on mo : Bool) (w : World) (ha : 0 ≤ a) (ha2 : a < 65536) (g0 : 8192 ≤ a) (g1 : a < 16384) (hx : 0 ≤ x) (hx2 : x < 256) (hl : 0 ≤ lo) (hl2 : lo < 512) (ha3 : 0 ≤ la) (y : Int) (hy : x % 128 = y) (hy0 : y = 0) : Calls Try.prog 25 #[.agg #[.int .i64 k, .int .i64 n, .int .i64 r, .bool on, .bool mo, .int .i64 lo, .int .i64 hi, .int .u8 la], .int .u16 a, .int .u8 x] w fun e w' => e = .returned (.tuple #[.agg #[.int .i64 k, .int .i64 n, .int .i64 r, .bool on, .bool mo, .int .i64 1, .int .i64 hi, .int .u8 la], .bool (false)]) ∧ Below w.heap.size w w' := by
  have e1 := (and127 x hx hx2).trans hy
  subst hy0
  go_enter Try.func25, Try.ntmps25
  go_wp2
  all_goals exact bodyPost_ret (v := .tuple #[.agg #[.int .i64 k, .int .i64 n, .int .i64 r, .bool on, .bool mo, .int .i64 1, .int .i64 hi, .int .u8 la], .bool (false)]) (by simp [results, Try.results25, go_sem]) rfl ⟨rfl, by first | exact Below.refl _ _ | exact own1 _ _ | exact own2 _ _ _ | exact own3 _ _ _ _ | exact own4 _ _ _ _ _⟩
set_option maxHeartbeats 1000000 in
theorem w13_6 (k n r lo hi la a x : Int) (on mo : Bool) (w : World) (ha : 0 ≤ a) (ha2 : a < 65536) (g0 : 8192 ≤ a) (g1 : a < 16384) (hx : 0 ≤ x) (hx2 : x < 256) (hl : 0 ≤ lo) (hl2 : lo < 512) (ha3 : 0 ≤ la) (y : Int) (hy : x % 128 = y) (hy0 : 1 ≤ y) : Calls Try.prog 25 #[.agg #[.int .i64 k, .int .i64 n, .int .i64 r, .bool on, .bool mo, .int .i64 lo, .int .i64 hi, .int .u8 la], .int .u16 a, .int .u8 x] w fun e w' => e = .returned (.tuple #[.agg #[.int .i64 k, .int .i64 n, .int .i64 r, .bool on, .bool mo, .int .i64 y, .int .i64 hi, .int .u8 la], .bool (false)]) ∧ Below w.heap.size w w' := by
  have e1 := (and127 x hx hx2).trans hy
  go_enter Try.func25, Try.ntmps25
  go_wp2
  all_goals exact bodyPost_ret (v := .tuple #[.agg #[.int .i64 k, .int .i64 n, .int .i64 r, .bool on, .bool mo, .int .i64 y, .int .i64 hi, .int .u8 la], .bool (false)]) (by simp [results, Try.results25, go_sem]) rfl ⟨rfl, by first | exact Below.refl _ _ | exact own1 _ _ | exact own2 _ _ _ | exact own3 _ _ _ _ | exact own4 _ _ _ _ _⟩
set_option maxHeartbeats 1000000 in
theorem w13_7 (k n r lo hi la a x : Int) (on mo : Bool) (w : World) (ha : 0 ≤ a) (ha2 : a < 65536) (g0 : 16384 ≤ a) (g1 : a < 24576) (hx : 0 ≤ x) (hx2 : x < 256) (hl : 0 ≤ lo) (hl2 : lo < 512) (ha3 : 0 ≤ la) : Calls Try.prog 25 #[.agg #[.int .i64 k, .int .i64 n, .int .i64 r, .bool on, .bool mo, .int .i64 lo, .int .i64 hi, .int .u8 la], .int .u16 a, .int .u8 x] w fun e w' => e = .returned (.tuple #[.agg #[.int .i64 k, .int .i64 n, .int .i64 r, .bool on, .bool mo, .int .i64 lo, .int .i64 ((x % 16)), .int .u8 la], .bool (false)]) ∧ Below w.heap.size w w' := by
  have e1 := and15 x hx hx2
  go_enter Try.func25, Try.ntmps25
  go_wp2
  all_goals exact bodyPost_ret (v := .tuple #[.agg #[.int .i64 k, .int .i64 n, .int .i64 r, .bool on, .bool mo, .int .i64 lo, .int .i64 ((x % 16)), .int .u8 la], .bool (false)]) (by simp [results, Try.results25, go_sem]) rfl ⟨rfl, by first | exact Below.refl _ _ | exact own1 _ _ | exact own2 _ _ _ | exact own3 _ _ _ _ | exact own4 _ _ _ _ _⟩
set_option maxHeartbeats 1000000 in
theorem w13_8 (k n r lo hi la a x : Int) (on mo : Bool) (w : World) (ha : 0 ≤ a) (ha2 : a < 65536) (g0 : 24576 ≤ a) (g1 : a < 32768) (hx : 0 ≤ x) (hx2 : x < 256) (hl : 0 ≤ lo) (hl2 : lo < 512) (ha3 : 0 ≤ la) : Calls Try.prog 23 #[.agg #[.int .i64 k, .int .i64 n, .int .i64 r, .bool on, .bool mo, .int .i64 lo, .int .i64 hi, .int .u8 la], .int .u16 a, .int .u8 x] w fun e w' => e = .returned (.agg #[.int .i64 k, .int .i64 n, .int .i64 r, .bool on, .bool ((x % 2 == 1)), .int .i64 lo, .int .i64 hi, .int .u8 la]) ∧ Below w.heap.size w w' := by
  have e1 := and1 x hx hx2
  go_enter Try.func23, Try.ntmps23
  go_wp2
  all_goals exact bodyPost_ret (v := .agg #[.int .i64 k, .int .i64 n, .int .i64 r, .bool on, .bool ((x % 2 == 1)), .int .i64 lo, .int .i64 hi, .int .u8 la]) (by simp [results, Try.results23, go_sem]) rfl ⟨rfl, by first | exact Below.refl _ _ | exact own1 _ _ | exact own2 _ _ _ | exact own3 _ _ _ _ | exact own4 _ _ _ _ _⟩
set_option maxHeartbeats 1000000 in
theorem w13_9 (k n r lo hi la a x : Int) (on mo : Bool) (w : World) (ha : 0 ≤ a) (ha2 : a < 65536) (g0 : 24576 ≤ a) (g1 : a < 32768) (g2 : la = 0) (hx : 0 ≤ x) (hx2 : x < 256) (hl : 0 ≤ lo) (hl2 : lo < 512) (ha3 : 0 ≤ la) : Calls Try.prog 25 #[.agg #[.int .i64 k, .int .i64 n, .int .i64 r, .bool on, .bool mo, .int .i64 lo, .int .i64 hi, .int .u8 la], .int .u16 a, .int .u8 x] w fun e w' => e = .returned (.tuple #[.agg #[.int .i64 k, .int .i64 n, .int .i64 r, .bool on, .bool mo, .int .i64 lo, .int .i64 hi, .int .u8 x], .bool (x == 1)]) ∧ Below w.heap.size w w' := by
  subst g2
  go_enter Try.func25, Try.ntmps25
  go_wp2
  all_goals exact bodyPost_ret (v := .tuple #[.agg #[.int .i64 k, .int .i64 n, .int .i64 r, .bool on, .bool mo, .int .i64 lo, .int .i64 hi, .int .u8 x], .bool (x == 1)]) (by simp [results, Try.results25, go_sem]) rfl ⟨rfl, by first | exact Below.refl _ _ | exact own1 _ _ | exact own2 _ _ _ | exact own3 _ _ _ _ | exact own4 _ _ _ _ _⟩
set_option maxHeartbeats 1000000 in
theorem w13_10 (k n r lo hi la a x : Int) (on mo : Bool) (w : World) (ha : 0 ≤ a) (ha2 : a < 65536) (g0 : 24576 ≤ a) (g1 : a < 32768) (g2 : 1 ≤ la) (hx : 0 ≤ x) (hx2 : x < 256) (hl : 0 ≤ lo) (hl2 : lo < 512) (ha3 : 0 ≤ la) : Calls Try.prog 25 #[.agg #[.int .i64 k, .int .i64 n, .int .i64 r, .bool on, .bool mo, .int .i64 lo, .int .i64 hi, .int .u8 la], .int .u16 a, .int .u8 x] w fun e w' => e = .returned (.tuple #[.agg #[.int .i64 k, .int .i64 n, .int .i64 r, .bool on, .bool mo, .int .i64 lo, .int .i64 hi, .int .u8 x], .bool (false)]) ∧ Below w.heap.size w w' := by
  go_enter Try.func25, Try.ntmps25
  go_wp2
  all_goals exact bodyPost_ret (v := .tuple #[.agg #[.int .i64 k, .int .i64 n, .int .i64 r, .bool on, .bool mo, .int .i64 lo, .int .i64 hi, .int .u8 x], .bool (false)]) (by simp [results, Try.results25, go_sem]) rfl ⟨rfl, by first | exact Below.refl _ _ | exact own1 _ _ | exact own2 _ _ _ | exact own3 _ _ _ _ | exact own4 _ _ _ _ _⟩
set_option maxHeartbeats 1000000 in
theorem w13_11 (k n r lo hi la a x : Int) (on mo : Bool) (w : World) (ha : 0 ≤ a) (ha2 : a < 65536) (g0 : 0 ≤ a) (g1 : a < 16384) (g2 : a / 256 % 2 = 0) (hx : 0 ≤ x) (hx2 : x < 256) (hl : 0 ≤ lo) (hl2 : lo < 512) (ha3 : 0 ≤ la) : Calls Try.prog 24 #[.agg #[.int .i64 k, .int .i64 n, .int .i64 r, .bool on, .bool mo, .int .i64 lo, .int .i64 hi, .int .u8 la], .int .u16 a, .int .u8 x] w fun e w' => e = .returned (.agg #[.int .i64 k, .int .i64 n, .int .i64 r, .bool ((x % 16 == 10)), .bool mo, .int .i64 lo, .int .i64 hi, .int .u8 la]) ∧ Below w.heap.size w w' := by
  have e1 := and15 x hx hx2
  have e2 : bits .and .u16 a 256 = 0 := by rw [and256 a (by omega) (by omega), g2]; rfl
  clear g2
  go_enter Try.func24, Try.ntmps24
  go_wp2
  all_goals exact bodyPost_ret (v := .agg #[.int .i64 k, .int .i64 n, .int .i64 r, .bool ((x % 16 == 10)), .bool mo, .int .i64 lo, .int .i64 hi, .int .u8 la]) (by simp [results, Try.results24, go_sem]) rfl ⟨rfl, by first | exact Below.refl _ _ | exact own1 _ _ | exact own2 _ _ _ | exact own3 _ _ _ _ | exact own4 _ _ _ _ _⟩
set_option maxHeartbeats 1000000 in
theorem w13_12 (k n r lo hi la a x : Int) (on mo : Bool) (w : World) (ha : 0 ≤ a) (ha2 : a < 65536) (g0 : 0 ≤ a) (g1 : a < 16384) (g2 : a / 256 % 2 = 1) (hx : 0 ≤ x) (hx2 : x < 256) (hl : 0 ≤ lo) (hl2 : lo < 512) (ha3 : 0 ≤ la) (y : Int) (hy : x % 16 = y) (hy0 : y = 0) : Calls Try.prog 24 #[.agg #[.int .i64 k, .int .i64 n, .int .i64 r, .bool on, .bool mo, .int .i64 lo, .int .i64 hi, .int .u8 la], .int .u16 a, .int .u8 x] w fun e w' => e = .returned (.agg #[.int .i64 k, .int .i64 n, .int .i64 r, .bool on, .bool mo, .int .i64 1, .int .i64 hi, .int .u8 la]) ∧ Below w.heap.size w w' := by
  have e1 := (and15 x hx hx2).trans hy
  have e2 : bits .and .u16 a 256 = 256 := by rw [and256 a (by omega) (by omega), g2]; rfl
  clear g2
  subst hy0
  go_enter Try.func24, Try.ntmps24
  go_wp2
  all_goals exact bodyPost_ret (v := .agg #[.int .i64 k, .int .i64 n, .int .i64 r, .bool on, .bool mo, .int .i64 1, .int .i64 hi, .int .u8 la]) (by simp [results, Try.results24, go_sem]) rfl ⟨rfl, by first | exact Below.refl _ _ | exact own1 _ _ | exact own2 _ _ _ | exact own3 _ _ _ _ | exact own4 _ _ _ _ _⟩
set_option maxHeartbeats 1000000 in
theorem w13_13 (k n r lo hi la a x : Int) (on mo : Bool) (w : World) (ha : 0 ≤ a) (ha2 : a < 65536) (g0 : 0 ≤ a) (g1 : a < 16384) (g2 : a / 256 % 2 = 1) (hx : 0 ≤ x) (hx2 : x < 256) (hl : 0 ≤ lo) (hl2 : lo < 512) (ha3 : 0 ≤ la) (y : Int) (hy : x % 16 = y) (hy0 : 1 ≤ y) : Calls Try.prog 24 #[.agg #[.int .i64 k, .int .i64 n, .int .i64 r, .bool on, .bool mo, .int .i64 lo, .int .i64 hi, .int .u8 la], .int .u16 a, .int .u8 x] w fun e w' => e = .returned (.agg #[.int .i64 k, .int .i64 n, .int .i64 r, .bool on, .bool mo, .int .i64 y, .int .i64 hi, .int .u8 la]) ∧ Below w.heap.size w w' := by
  have e1 := (and15 x hx hx2).trans hy
  have e2 : bits .and .u16 a 256 = 256 := by rw [and256 a (by omega) (by omega), g2]; rfl
  clear g2
  go_enter Try.func24, Try.ntmps24
  go_wp2
  all_goals exact bodyPost_ret (v := .agg #[.int .i64 k, .int .i64 n, .int .i64 r, .bool on, .bool mo, .int .i64 y, .int .i64 hi, .int .u8 la]) (by simp [results, Try.results24, go_sem]) rfl ⟨rfl, by first | exact Below.refl _ _ | exact own1 _ _ | exact own2 _ _ _ | exact own3 _ _ _ _ | exact own4 _ _ _ _ _⟩
set_option maxHeartbeats 1000000 in
theorem w13_14 (k n r lo hi la a x : Int) (on mo : Bool) (w : World) (ha : 0 ≤ a) (ha2 : a < 65536) (g0 : 16384 ≤ a) (g1 : a < 32768) (hx : 0 ≤ x) (hx2 : x < 256) (hl : 0 ≤ lo) (hl2 : lo < 512) (ha3 : 0 ≤ la) : Calls Try.prog 24 #[.agg #[.int .i64 k, .int .i64 n, .int .i64 r, .bool on, .bool mo, .int .i64 lo, .int .i64 hi, .int .u8 la], .int .u16 a, .int .u8 x] w fun e w' => e = .returned (.agg #[.int .i64 k, .int .i64 n, .int .i64 r, .bool on, .bool mo, .int .i64 lo, .int .i64 hi, .int .u8 la]) ∧ Below w.heap.size w w' := by
  go_enter Try.func24, Try.ntmps24
  go_wp2
  all_goals exact bodyPost_ret (v := .agg #[.int .i64 k, .int .i64 n, .int .i64 r, .bool on, .bool mo, .int .i64 lo, .int .i64 hi, .int .u8 la]) (by simp [results, Try.results24, go_sem]) rfl ⟨rfl, by first | exact Below.refl _ _ | exact own1 _ _ | exact own2 _ _ _ | exact own3 _ _ _ _ | exact own4 _ _ _ _ _⟩
set_option maxHeartbeats 1000000 in
theorem w13_15 (k n r lo hi la a x : Int) (on mo : Bool) (w : World) (ha : 0 ≤ a) (ha2 : a < 65536) (g0 : 0 ≤ a) (g1 : a < 8192) (hx : 0 ≤ x) (hx2 : x < 256) (hl : 0 ≤ lo) (hl2 : lo < 512) (ha3 : 0 ≤ la) : Calls Try.prog 26 #[.agg #[.int .i64 k, .int .i64 n, .int .i64 r, .bool on, .bool mo, .int .i64 lo, .int .i64 hi, .int .u8 la], .int .u16 a, .int .u8 x] w fun e w' => e = .returned (.agg #[.int .i64 k, .int .i64 n, .int .i64 r, .bool ((x % 16 == 10)), .bool mo, .int .i64 lo, .int .i64 hi, .int .u8 la]) ∧ Below w.heap.size w w' := by
  have e1 := and15 x hx hx2
  go_enter Try.func26, Try.ntmps26
  go_wp2
  all_goals exact bodyPost_ret (v := .agg #[.int .i64 k, .int .i64 n, .int .i64 r, .bool ((x % 16 == 10)), .bool mo, .int .i64 lo, .int .i64 hi, .int .u8 la]) (by simp [results, Try.results26, go_sem]) rfl ⟨rfl, by first | exact Below.refl _ _ | exact own1 _ _ | exact own2 _ _ _ | exact own3 _ _ _ _ | exact own4 _ _ _ _ _⟩
set_option maxHeartbeats 1000000 in
theorem w13_16 (k n r lo hi la a x : Int) (on mo : Bool) (w : World) (ha : 0 ≤ a) (ha2 : a < 65536) (g0 : 8192 ≤ a) (g1 : a < 12288) (hx : 0 ≤ x) (hx2 : x < 256) (hl : 0 ≤ lo) (hl2 : lo < 512) (ha3 : 0 ≤ la) : Calls Try.prog 26 #[.agg #[.int .i64 k, .int .i64 n, .int .i64 r, .bool on, .bool mo, .int .i64 lo, .int .i64 hi, .int .u8 la], .int .u16 a, .int .u8 x] w fun e w' => e = .returned (.agg #[.int .i64 k, .int .i64 n, .int .i64 r, .bool on, .bool mo, .int .i64 ((lo / 256 * 256 + x)), .int .i64 hi, .int .u8 la]) ∧ Below w.heap.size w w' := by
  have e1 := lo_hi lo hl hl2
  have e2 := or_b (lo / 256) x (by omega) (by omega) hx hx2
  go_enter Try.func26, Try.ntmps26
  go_wp2
  all_goals exact bodyPost_ret (v := .agg #[.int .i64 k, .int .i64 n, .int .i64 r, .bool on, .bool mo, .int .i64 ((lo / 256 * 256 + x)), .int .i64 hi, .int .u8 la]) (by simp [results, Try.results26, go_sem]) rfl ⟨rfl, by first | exact Below.refl _ _ | exact own1 _ _ | exact own2 _ _ _ | exact own3 _ _ _ _ | exact own4 _ _ _ _ _⟩
set_option maxHeartbeats 1000000 in
theorem w13_17 (k n r lo hi la a x : Int) (on mo : Bool) (w : World) (ha : 0 ≤ a) (ha2 : a < 65536) (g0 : 12288 ≤ a) (g1 : a < 16384) (hx : 0 ≤ x) (hx2 : x < 256) (hl : 0 ≤ lo) (hl2 : lo < 512) (ha3 : 0 ≤ la) : Calls Try.prog 26 #[.agg #[.int .i64 k, .int .i64 n, .int .i64 r, .bool on, .bool mo, .int .i64 lo, .int .i64 hi, .int .u8 la], .int .u16 a, .int .u8 x] w fun e w' => e = .returned (.agg #[.int .i64 k, .int .i64 n, .int .i64 r, .bool on, .bool mo, .int .i64 ((lo % 256 + x % 2 * 256)), .int .i64 hi, .int .u8 la]) ∧ Below w.heap.size w w' := by
  have e1 := lo_lo lo hl hl2
  have e3 := and1 x hx hx2
  have e2 := or_t (x % 2) (lo % 256) (by omega) (by omega) (by omega) (by omega)
  go_enter Try.func26, Try.ntmps26
  go_wp2
  all_goals exact bodyPost_ret (v := .agg #[.int .i64 k, .int .i64 n, .int .i64 r, .bool on, .bool mo, .int .i64 ((lo % 256 + x % 2 * 256)), .int .i64 hi, .int .u8 la]) (by simp [results, Try.results26, go_sem]) rfl ⟨rfl, by first | exact Below.refl _ _ | exact own1 _ _ | exact own2 _ _ _ | exact own3 _ _ _ _ | exact own4 _ _ _ _ _⟩
set_option maxHeartbeats 1000000 in
theorem w13_18 (k n r lo hi la a x : Int) (on mo : Bool) (w : World) (ha : 0 ≤ a) (ha2 : a < 65536) (g0 : 16384 ≤ a) (g1 : a < 24576) (hx : 0 ≤ x) (hx2 : x < 256) (hl : 0 ≤ lo) (hl2 : lo < 512) (ha3 : 0 ≤ la) : Calls Try.prog 26 #[.agg #[.int .i64 k, .int .i64 n, .int .i64 r, .bool on, .bool mo, .int .i64 lo, .int .i64 hi, .int .u8 la], .int .u16 a, .int .u8 x] w fun e w' => e = .returned (.agg #[.int .i64 k, .int .i64 n, .int .i64 r, .bool on, .bool mo, .int .i64 lo, .int .i64 ((x % 16)), .int .u8 la]) ∧ Below w.heap.size w w' := by
  have e1 := and15 x hx hx2
  go_enter Try.func26, Try.ntmps26
  go_wp2
  all_goals exact bodyPost_ret (v := .agg #[.int .i64 k, .int .i64 n, .int .i64 r, .bool on, .bool mo, .int .i64 lo, .int .i64 ((x % 16)), .int .u8 la]) (by simp [results, Try.results26, go_sem]) rfl ⟨rfl, by first | exact Below.refl _ _ | exact own1 _ _ | exact own2 _ _ _ | exact own3 _ _ _ _ | exact own4 _ _ _ _ _⟩
set_option maxHeartbeats 1000000 in
theorem w13_19 (k n r lo hi la a x : Int) (on mo : Bool) (w : World) (ha : 0 ≤ a) (ha2 : a < 65536) (g0 : 24576 ≤ a) (g1 : a < 32768) (hx : 0 ≤ x) (hx2 : x < 256) (hl : 0 ≤ lo) (hl2 : lo < 512) (ha3 : 0 ≤ la) : Calls Try.prog 26 #[.agg #[.int .i64 k, .int .i64 n, .int .i64 r, .bool on, .bool mo, .int .i64 lo, .int .i64 hi, .int .u8 la], .int .u16 a, .int .u8 x] w fun e w' => e = .returned (.agg #[.int .i64 k, .int .i64 n, .int .i64 r, .bool on, .bool mo, .int .i64 lo, .int .i64 hi, .int .u8 la]) ∧ Below w.heap.size w w' := by
  go_enter Try.func26, Try.ntmps26
  go_wp2
  all_goals exact bodyPost_ret (v := .agg #[.int .i64 k, .int .i64 n, .int .i64 r, .bool on, .bool mo, .int .i64 lo, .int .i64 hi, .int .u8 la]) (by simp [results, Try.results26, go_sem]) rfl ⟨rfl, by first | exact Below.refl _ _ | exact own1 _ _ | exact own2 _ _ _ | exact own3 _ _ _ _ | exact own4 _ _ _ _ _⟩
end Go.Proofs.Ytafmmffgenolaaa
