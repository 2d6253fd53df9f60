/-
  Each way of a write of the document: for every map and every write; no condition but that each number fits.
-/
import Derived.Test.YtafmmffgenolaaaBits
namespace Go.Proofs.Ytafmmffgenolaaa
open Go.ChangeShapes Go.WideShapes Go.ChangeAt Go.RowKit
set_option linter.unusedVariables false
set_option linter.unusedSimpArgs false
set_option maxRecDepth 100000
set_option maxHeartbeats 1000000 in
theorem w14_0 (n r lo hi la a x : Int) (on mo : Bool) (w : World) (ha : 0 ≤ a) (ha2 : a < 65536) (g0 : 0 ≤ (a % 32768)) (g1 : (a % 32768) < 8192) (hx : 0 ≤ x) (hx2 : x < 256) (hl : 0 ≤ lo) (hl2 : lo < 512) (ha3 : 0 ≤ la) : Calls Try.prog 14 #[.agg #[.int .i64 1, .int .i64 n, .int .i64 r, .bool on, .bool mo, .int .i64 lo, .int .i64 hi, .int .u8 la], .int .u16 a, .int .u8 x] w fun e w' => e = .returned (.tuple #[.agg #[.int .i64 1, .int .i64 n, .int .i64 r, .bool ((x % 16 == 10)), .bool mo, .int .i64 lo, .int .i64 hi, .int .u8 la], .bool (false)]) ∧ Below w.heap.size w w' := by
  go_enter Try.func14, Try.ntmps14
  go_wp2
  all_goals exact bodyPost_ret (v := .tuple #[.agg #[.int .i64 1, .int .i64 n, .int .i64 r, .bool ((x % 16 == 10)), .bool mo, .int .i64 lo, .int .i64 hi, .int .u8 la], .bool (false)]) (by simp [results, Try.results14, go_sem]) rfl ⟨rfl, by first | exact Below.refl _ _ | exact own1 _ _ | exact own2 _ _ _ | exact own3 _ _ _ _ | exact own4 _ _ _ _ _⟩
set_option maxHeartbeats 1000000 in
theorem w14_1 (n r lo hi la a x : Int) (on mo : Bool) (w : World) (ha : 0 ≤ a) (ha2 : a < 65536) (g0 : 8192 ≤ (a % 32768)) (g1 : (a % 32768) < 16384) (hx : 0 ≤ x) (hx2 : x < 256) (hl : 0 ≤ lo) (hl2 : lo < 512) (ha3 : 0 ≤ la) (y : Int) (hy : x % 32 = y) (hy0 : y = 0) : Calls Try.prog 14 #[.agg #[.int .i64 1, .int .i64 n, .int .i64 r, .bool on, .bool mo, .int .i64 lo, .int .i64 hi, .int .u8 la], .int .u16 a, .int .u8 x] w fun e w' => e = .returned (.tuple #[.agg #[.int .i64 1, .int .i64 n, .int .i64 r, .bool on, .bool mo, .int .i64 1, .int .i64 hi, .int .u8 la], .bool (false)]) ∧ Below w.heap.size w w' := by
  subst hy0
  go_enter Try.func14, Try.ntmps14
  go_wp2
  all_goals exact bodyPost_ret (v := .tuple #[.agg #[.int .i64 1, .int .i64 n, .int .i64 r, .bool on, .bool mo, .int .i64 1, .int .i64 hi, .int .u8 la], .bool (false)]) (by simp [results, Try.results14, go_sem]) rfl ⟨rfl, by first | exact Below.refl _ _ | exact own1 _ _ | exact own2 _ _ _ | exact own3 _ _ _ _ | exact own4 _ _ _ _ _⟩
set_option maxHeartbeats 1000000 in
theorem w14_2 (n r lo hi la a x : Int) (on mo : Bool) (w : World) (ha : 0 ≤ a) (ha2 : a < 65536) (g0 : 8192 ≤ (a % 32768)) (g1 : (a % 32768) < 16384) (hx : 0 ≤ x) (hx2 : x < 256) (hl : 0 ≤ lo) (hl2 : lo < 512) (ha3 : 0 ≤ la) (y : Int) (hy : x % 32 = y) (hy0 : 1 ≤ y) : Calls Try.prog 14 #[.agg #[.int .i64 1, .int .i64 n, .int .i64 r, .bool on, .bool mo, .int .i64 lo, .int .i64 hi, .int .u8 la], .int .u16 a, .int .u8 x] w fun e w' => e = .returned (.tuple #[.agg #[.int .i64 1, .int .i64 n, .int .i64 r, .bool on, .bool mo, .int .i64 y, .int .i64 hi, .int .u8 la], .bool (false)]) ∧ Below w.heap.size w w' := by
  go_enter Try.func14, Try.ntmps14
  go_wp2
  all_goals exact bodyPost_ret (v := .tuple #[.agg #[.int .i64 1, .int .i64 n, .int .i64 r, .bool on, .bool mo, .int .i64 y, .int .i64 hi, .int .u8 la], .bool (false)]) (by simp [results, Try.results14, go_sem]) rfl ⟨rfl, by first | exact Below.refl _ _ | exact own1 _ _ | exact own2 _ _ _ | exact own3 _ _ _ _ | exact own4 _ _ _ _ _⟩
set_option maxHeartbeats 1000000 in
theorem w14_3 (n r lo hi la a x : Int) (on mo : Bool) (w : World) (ha : 0 ≤ a) (ha2 : a < 65536) (g0 : 16384 ≤ (a % 32768)) (g1 : (a % 32768) < 24576) (hx : 0 ≤ x) (hx2 : x < 256) (hl : 0 ≤ lo) (hl2 : lo < 512) (ha3 : 0 ≤ la) : Calls Try.prog 14 #[.agg #[.int .i64 1, .int .i64 n, .int .i64 r, .bool on, .bool mo, .int .i64 lo, .int .i64 hi, .int .u8 la], .int .u16 a, .int .u8 x] w fun e w' => e = .returned (.tuple #[.agg #[.int .i64 1, .int .i64 n, .int .i64 r, .bool on, .bool mo, .int .i64 lo, .int .i64 ((x % 4)), .int .u8 la], .bool (false)]) ∧ Below w.heap.size w w' := by
  go_enter Try.func14, Try.ntmps14
  go_wp2
  all_goals exact bodyPost_ret (v := .tuple #[.agg #[.int .i64 1, .int .i64 n, .int .i64 r, .bool on, .bool mo, .int .i64 lo, .int .i64 ((x % 4)), .int .u8 la], .bool (false)]) (by simp [results, Try.results14, go_sem]) rfl ⟨rfl, by first | exact Below.refl _ _ | exact own1 _ _ | exact own2 _ _ _ | exact own3 _ _ _ _ | exact own4 _ _ _ _ _⟩
set_option maxHeartbeats 1000000 in
theorem w14_4 (n r lo hi la a x : Int) (on mo : Bool) (w : World) (ha : 0 ≤ a) (ha2 : a < 65536) (g0 : 0 ≤ (a % 32768)) (g1 : (a % 32768) < 8192) (hx : 0 ≤ x) (hx2 : x < 256) (hl : 0 ≤ lo) (hl2 : lo < 512) (ha3 : 0 ≤ la) : Calls Try.prog 14 #[.agg #[.int .i64 3, .int .i64 n, .int .i64 r, .bool on, .bool mo, .int .i64 lo, .int .i64 hi, .int .u8 la], .int .u16 a, .int .u8 x] w fun e w' => e = .returned (.tuple #[.agg #[.int .i64 3, .int .i64 n, .int .i64 r, .bool ((x % 16 == 10)), .bool mo, .int .i64 lo, .int .i64 hi, .int .u8 la], .bool (false)]) ∧ Below w.heap.size w w' := by
  go_enter Try.func14, Try.ntmps14
  go_wp2
  all_goals exact bodyPost_ret (v := .tuple #[.agg #[.int .i64 3, .int .i64 n, .int .i64 r, .bool ((x % 16 == 10)), .bool mo, .int .i64 lo, .int .i64 hi, .int .u8 la], .bool (false)]) (by simp [results, Try.results14, go_sem]) rfl ⟨rfl, by first | exact Below.refl _ _ | exact own1 _ _ | exact own2 _ _ _ | exact own3 _ _ _ _ | exact own4 _ _ _ _ _⟩
set_option maxHeartbeats 1000000 in
theorem w14_5 (n r lo hi la a x : Int) (on mo : Bool) (w : World) (ha : 0 ≤ a) (ha2 : a < 65536) (g0 : 8192 ≤ (a % 32768)) (g1 : (a % 32768) < 16384) (hx : 0 ≤ x) (hx2 : x < 256) (hl : 0 ≤ lo) (hl2 : lo < 512) (ha3 : 0 ≤ la) (y : Int) (hy : x % 128 = y) (hy0 : y = 0) : Calls Try.prog 14 #[.agg #[.int .i64 3, .int .i64 n, .int .i64 r, .bool on, .bool mo, .int .i64 lo, .int .i64 hi, .int .u8 la], .int .u16 a, .int .u8 x] w fun e w' => e = .returned (.tuple #[.agg #[.int .i64 3, .int .i64 n, .int .i64 r, .bool on, .bool mo, .int .i64 1, .int .i64 hi, .int .u8 la], .bool (false)]) ∧ Below w.heap.size w w' := by
  subst hy0
  go_enter Try.func14, Try.ntmps14
  go_wp2
  all_goals exact bodyPost_ret (v := .tuple #[.agg #[.int .i64 3, .int .i64 n, .int .i64 r, .bool on, .bool mo, .int .i64 1, .int .i64 hi, .int .u8 la], .bool (false)]) (by simp [results, Try.results14, go_sem]) rfl ⟨rfl, by first | exact Below.refl _ _ | exact own1 _ _ | exact own2 _ _ _ | exact own3 _ _ _ _ | exact own4 _ _ _ _ _⟩
set_option maxHeartbeats 1000000 in
theorem w14_6 (n r lo hi la a x : Int) (on mo : Bool) (w : World) (ha : 0 ≤ a) (ha2 : a < 65536) (g0 : 8192 ≤ (a % 32768)) (g1 : (a % 32768) < 16384) (hx : 0 ≤ x) (hx2 : x < 256) (hl : 0 ≤ lo) (hl2 : lo < 512) (ha3 : 0 ≤ la) (y : Int) (hy : x % 128 = y) (hy0 : 1 ≤ y) : Calls Try.prog 14 #[.agg #[.int .i64 3, .int .i64 n, .int .i64 r, .bool on, .bool mo, .int .i64 lo, .int .i64 hi, .int .u8 la], .int .u16 a, .int .u8 x] w fun e w' => e = .returned (.tuple #[.agg #[.int .i64 3, .int .i64 n, .int .i64 r, .bool on, .bool mo, .int .i64 y, .int .i64 hi, .int .u8 la], .bool (false)]) ∧ Below w.heap.size w w' := by
  go_enter Try.func14, Try.ntmps14
  go_wp2
  all_goals exact bodyPost_ret (v := .tuple #[.agg #[.int .i64 3, .int .i64 n, .int .i64 r, .bool on, .bool mo, .int .i64 y, .int .i64 hi, .int .u8 la], .bool (false)]) (by simp [results, Try.results14, go_sem]) rfl ⟨rfl, by first | exact Below.refl _ _ | exact own1 _ _ | exact own2 _ _ _ | exact own3 _ _ _ _ | exact own4 _ _ _ _ _⟩
set_option maxHeartbeats 1000000 in
theorem w14_7 (n r lo hi la a x : Int) (on mo : Bool) (w : World) (ha : 0 ≤ a) (ha2 : a < 65536) (g0 : 16384 ≤ (a % 32768)) (g1 : (a % 32768) < 24576) (hx : 0 ≤ x) (hx2 : x < 256) (hl : 0 ≤ lo) (hl2 : lo < 512) (ha3 : 0 ≤ la) : Calls Try.prog 14 #[.agg #[.int .i64 3, .int .i64 n, .int .i64 r, .bool on, .bool mo, .int .i64 lo, .int .i64 hi, .int .u8 la], .int .u16 a, .int .u8 x] w fun e w' => e = .returned (.tuple #[.agg #[.int .i64 3, .int .i64 n, .int .i64 r, .bool on, .bool mo, .int .i64 lo, .int .i64 ((x % 16)), .int .u8 la], .bool (false)]) ∧ Below w.heap.size w w' := by
  go_enter Try.func14, Try.ntmps14
  go_wp2
  all_goals exact bodyPost_ret (v := .tuple #[.agg #[.int .i64 3, .int .i64 n, .int .i64 r, .bool on, .bool mo, .int .i64 lo, .int .i64 ((x % 16)), .int .u8 la], .bool (false)]) (by simp [results, Try.results14, go_sem]) rfl ⟨rfl, by first | exact Below.refl _ _ | exact own1 _ _ | exact own2 _ _ _ | exact own3 _ _ _ _ | exact own4 _ _ _ _ _⟩
set_option maxHeartbeats 1000000 in
theorem w14_8 (n r lo hi la a x : Int) (on mo : Bool) (w : World) (ha : 0 ≤ a) (ha2 : a < 65536) (g0 : 24576 ≤ (a % 32768)) (g1 : (a % 32768) < 32768) (hx : 0 ≤ x) (hx2 : x < 256) (hl : 0 ≤ lo) (hl2 : lo < 512) (ha3 : 0 ≤ la) : Calls Try.prog 14 #[.agg #[.int .i64 1, .int .i64 n, .int .i64 r, .bool on, .bool mo, .int .i64 lo, .int .i64 hi, .int .u8 la], .int .u16 a, .int .u8 x] w fun e w' => e = .returned (.tuple #[.agg #[.int .i64 1, .int .i64 n, .int .i64 r, .bool on, .bool ((x % 2 == 1)), .int .i64 lo, .int .i64 hi, .int .u8 la], .bool (false)]) ∧ Below w.heap.size w w' := by
  go_enter Try.func14, Try.ntmps14
  go_wp2
  all_goals exact bodyPost_ret (v := .tuple #[.agg #[.int .i64 1, .int .i64 n, .int .i64 r, .bool on, .bool ((x % 2 == 1)), .int .i64 lo, .int .i64 hi, .int .u8 la], .bool (false)]) (by simp [results, Try.results14, go_sem]) rfl ⟨rfl, by first | exact Below.refl _ _ | exact own1 _ _ | exact own2 _ _ _ | exact own3 _ _ _ _ | exact own4 _ _ _ _ _⟩
set_option maxHeartbeats 1000000 in
theorem w14_9 (n r lo hi la a x : Int) (on mo : Bool) (w : World) (ha : 0 ≤ a) (ha2 : a < 65536) (g0 : 24576 ≤ (a % 32768)) (g1 : (a % 32768) < 32768) (g2 : la = 0) (hx : 0 ≤ x) (hx2 : x < 256) (hl : 0 ≤ lo) (hl2 : lo < 512) (ha3 : 0 ≤ la) : Calls Try.prog 14 #[.agg #[.int .i64 3, .int .i64 n, .int .i64 r, .bool on, .bool mo, .int .i64 lo, .int .i64 hi, .int .u8 la], .int .u16 a, .int .u8 x] w fun e w' => e = .returned (.tuple #[.agg #[.int .i64 3, .int .i64 n, .int .i64 r, .bool on, .bool mo, .int .i64 lo, .int .i64 hi, .int .u8 x], .bool (x == 1)]) ∧ Below w.heap.size w w' := by
  subst g2
  go_enter Try.func14, Try.ntmps14
  go_wp2
  all_goals exact bodyPost_ret (v := .tuple #[.agg #[.int .i64 3, .int .i64 n, .int .i64 r, .bool on, .bool mo, .int .i64 lo, .int .i64 hi, .int .u8 x], .bool (x == 1)]) (by simp [results, Try.results14, go_sem]) rfl ⟨rfl, by first | exact Below.refl _ _ | exact own1 _ _ | exact own2 _ _ _ | exact own3 _ _ _ _ | exact own4 _ _ _ _ _⟩
set_option maxHeartbeats 1000000 in
theorem w14_10 (n r lo hi la a x : Int) (on mo : Bool) (w : World) (ha : 0 ≤ a) (ha2 : a < 65536) (g0 : 24576 ≤ (a % 32768)) (g1 : (a % 32768) < 32768) (g2 : 1 ≤ la) (hx : 0 ≤ x) (hx2 : x < 256) (hl : 0 ≤ lo) (hl2 : lo < 512) (ha3 : 0 ≤ la) : Calls Try.prog 14 #[.agg #[.int .i64 3, .int .i64 n, .int .i64 r, .bool on, .bool mo, .int .i64 lo, .int .i64 hi, .int .u8 la], .int .u16 a, .int .u8 x] w fun e w' => e = .returned (.tuple #[.agg #[.int .i64 3, .int .i64 n, .int .i64 r, .bool on, .bool mo, .int .i64 lo, .int .i64 hi, .int .u8 x], .bool (false)]) ∧ Below w.heap.size w w' := by
  go_enter Try.func14, Try.ntmps14
  go_wp2
  all_goals exact bodyPost_ret (v := .tuple #[.agg #[.int .i64 3, .int .i64 n, .int .i64 r, .bool on, .bool mo, .int .i64 lo, .int .i64 hi, .int .u8 x], .bool (false)]) (by simp [results, Try.results14, go_sem]) rfl ⟨rfl, by first | exact Below.refl _ _ | exact own1 _ _ | exact own2 _ _ _ | exact own3 _ _ _ _ | exact own4 _ _ _ _ _⟩
set_option maxHeartbeats 1000000 in
theorem w14_11 (n r lo hi la a x : Int) (on mo : Bool) (w : World) (ha : 0 ≤ a) (ha2 : a < 65536) (g0 : 0 ≤ (a % 32768)) (g1 : (a % 32768) < 16384) (g2 : (a % 32768) / 256 % 2 = 0) (hx : 0 ≤ x) (hx2 : x < 256) (hl : 0 ≤ lo) (hl2 : lo < 512) (ha3 : 0 ≤ la) : Calls Try.prog 14 #[.agg #[.int .i64 2, .int .i64 n, .int .i64 r, .bool on, .bool mo, .int .i64 lo, .int .i64 hi, .int .u8 la], .int .u16 a, .int .u8 x] w fun e w' => e = .returned (.tuple #[.agg #[.int .i64 2, .int .i64 n, .int .i64 r, .bool ((x % 16 == 10)), .bool mo, .int .i64 lo, .int .i64 hi, .int .u8 la], .bool (false)]) ∧ Below w.heap.size w w' := by
  go_enter Try.func14, Try.ntmps14
  go_wp2
  all_goals exact bodyPost_ret (v := .tuple #[.agg #[.int .i64 2, .int .i64 n, .int .i64 r, .bool ((x % 16 == 10)), .bool mo, .int .i64 lo, .int .i64 hi, .int .u8 la], .bool (false)]) (by simp [results, Try.results14, go_sem]) rfl ⟨rfl, by first | exact Below.refl _ _ | exact own1 _ _ | exact own2 _ _ _ | exact own3 _ _ _ _ | exact own4 _ _ _ _ _⟩
set_option maxHeartbeats 1000000 in
theorem w14_12 (n r lo hi la a x : Int) (on mo : Bool) (w : World) (ha : 0 ≤ a) (ha2 : a < 65536) (g0 : 0 ≤ (a % 32768)) (g1 : (a % 32768) < 16384) (g2 : (a % 32768) / 256 % 2 = 1) (hx : 0 ≤ x) (hx2 : x < 256) (hl : 0 ≤ lo) (hl2 : lo < 512) (ha3 : 0 ≤ la) (y : Int) (hy : x % 16 = y) (hy0 : y = 0) : Calls Try.prog 14 #[.agg #[.int .i64 2, .int .i64 n, .int .i64 r, .bool on, .bool mo, .int .i64 lo, .int .i64 hi, .int .u8 la], .int .u16 a, .int .u8 x] w fun e w' => e = .returned (.tuple #[.agg #[.int .i64 2, .int .i64 n, .int .i64 r, .bool on, .bool mo, .int .i64 1, .int .i64 hi, .int .u8 la], .bool (false)]) ∧ Below w.heap.size w w' := by
  subst hy0
  go_enter Try.func14, Try.ntmps14
  go_wp2
  all_goals exact bodyPost_ret (v := .tuple #[.agg #[.int .i64 2, .int .i64 n, .int .i64 r, .bool on, .bool mo, .int .i64 1, .int .i64 hi, .int .u8 la], .bool (false)]) (by simp [results, Try.results14, go_sem]) rfl ⟨rfl, by first | exact Below.refl _ _ | exact own1 _ _ | exact own2 _ _ _ | exact own3 _ _ _ _ | exact own4 _ _ _ _ _⟩
set_option maxHeartbeats 1000000 in
theorem w14_13 (n r lo hi la a x : Int) (on mo : Bool) (w : World) (ha : 0 ≤ a) (ha2 : a < 65536) (g0 : 0 ≤ (a % 32768)) (g1 : (a % 32768) < 16384) (g2 : (a % 32768) / 256 % 2 = 1) (hx : 0 ≤ x) (hx2 : x < 256) (hl : 0 ≤ lo) (hl2 : lo < 512) (ha3 : 0 ≤ la) (y : Int) (hy : x % 16 = y) (hy0 : 1 ≤ y) : Calls Try.prog 14 #[.agg #[.int .i64 2, .int .i64 n, .int .i64 r, .bool on, .bool mo, .int .i64 lo, .int .i64 hi, .int .u8 la], .int .u16 a, .int .u8 x] w fun e w' => e = .returned (.tuple #[.agg #[.int .i64 2, .int .i64 n, .int .i64 r, .bool on, .bool mo, .int .i64 y, .int .i64 hi, .int .u8 la], .bool (false)]) ∧ Below w.heap.size w w' := by
  go_enter Try.func14, Try.ntmps14
  go_wp2
  all_goals exact bodyPost_ret (v := .tuple #[.agg #[.int .i64 2, .int .i64 n, .int .i64 r, .bool on, .bool mo, .int .i64 y, .int .i64 hi, .int .u8 la], .bool (false)]) (by simp [results, Try.results14, go_sem]) rfl ⟨rfl, by first | exact Below.refl _ _ | exact own1 _ _ | exact own2 _ _ _ | exact own3 _ _ _ _ | exact own4 _ _ _ _ _⟩
set_option maxHeartbeats 1000000 in
theorem w14_14 (n r lo hi la a x : Int) (on mo : Bool) (w : World) (ha : 0 ≤ a) (ha2 : a < 65536) (g0 : 16384 ≤ (a % 32768)) (g1 : (a % 32768) < 32768) (hx : 0 ≤ x) (hx2 : x < 256) (hl : 0 ≤ lo) (hl2 : lo < 512) (ha3 : 0 ≤ la) : Calls Try.prog 14 #[.agg #[.int .i64 2, .int .i64 n, .int .i64 r, .bool on, .bool mo, .int .i64 lo, .int .i64 hi, .int .u8 la], .int .u16 a, .int .u8 x] w fun e w' => e = .returned (.tuple #[.agg #[.int .i64 2, .int .i64 n, .int .i64 r, .bool on, .bool mo, .int .i64 lo, .int .i64 hi, .int .u8 la], .bool (false)]) ∧ Below w.heap.size w w' := by
  go_enter Try.func14, Try.ntmps14
  go_wp2
  all_goals exact bodyPost_ret (v := .tuple #[.agg #[.int .i64 2, .int .i64 n, .int .i64 r, .bool on, .bool mo, .int .i64 lo, .int .i64 hi, .int .u8 la], .bool (false)]) (by simp [results, Try.results14, go_sem]) rfl ⟨rfl, by first | exact Below.refl _ _ | exact own1 _ _ | exact own2 _ _ _ | exact own3 _ _ _ _ | exact own4 _ _ _ _ _⟩
set_option maxHeartbeats 1000000 in
theorem w14_15 (n r lo hi la a x : Int) (on mo : Bool) (w : World) (ha : 0 ≤ a) (ha2 : a < 65536) (g0 : 0 ≤ (a % 32768)) (g1 : (a % 32768) < 8192) (hx : 0 ≤ x) (hx2 : x < 256) (hl : 0 ≤ lo) (hl2 : lo < 512) (ha3 : 0 ≤ la) : Calls Try.prog 14 #[.agg #[.int .i64 5, .int .i64 n, .int .i64 r, .bool on, .bool mo, .int .i64 lo, .int .i64 hi, .int .u8 la], .int .u16 a, .int .u8 x] w fun e w' => e = .returned (.tuple #[.agg #[.int .i64 5, .int .i64 n, .int .i64 r, .bool ((x % 16 == 10)), .bool mo, .int .i64 lo, .int .i64 hi, .int .u8 la], .bool (false)]) ∧ Below w.heap.size w w' := by
  go_enter Try.func14, Try.ntmps14
  go_wp2
  all_goals exact bodyPost_ret (v := .tuple #[.agg #[.int .i64 5, .int .i64 n, .int .i64 r, .bool ((x % 16 == 10)), .bool mo, .int .i64 lo, .int .i64 hi, .int .u8 la], .bool (false)]) (by simp [results, Try.results14, go_sem]) rfl ⟨rfl, by first | exact Below.refl _ _ | exact own1 _ _ | exact own2 _ _ _ | exact own3 _ _ _ _ | exact own4 _ _ _ _ _⟩
set_option maxHeartbeats 1000000 in
theorem w14_16 (n r lo hi la a x : Int) (on mo : Bool) (w : World) (ha : 0 ≤ a) (ha2 : a < 65536) (g0 : 8192 ≤ (a % 32768)) (g1 : (a % 32768) < 12288) (hx : 0 ≤ x) (hx2 : x < 256) (hl : 0 ≤ lo) (hl2 : lo < 512) (ha3 : 0 ≤ la) : Calls Try.prog 14 #[.agg #[.int .i64 5, .int .i64 n, .int .i64 r, .bool on, .bool mo, .int .i64 lo, .int .i64 hi, .int .u8 la], .int .u16 a, .int .u8 x] w fun e w' => e = .returned (.tuple #[.agg #[.int .i64 5, .int .i64 n, .int .i64 r, .bool on, .bool mo, .int .i64 ((lo / 256 * 256 + x)), .int .i64 hi, .int .u8 la], .bool (false)]) ∧ Below w.heap.size w w' := by
  go_enter Try.func14, Try.ntmps14
  go_wp2
  all_goals exact bodyPost_ret (v := .tuple #[.agg #[.int .i64 5, .int .i64 n, .int .i64 r, .bool on, .bool mo, .int .i64 ((lo / 256 * 256 + x)), .int .i64 hi, .int .u8 la], .bool (false)]) (by simp [results, Try.results14, go_sem]) rfl ⟨rfl, by first | exact Below.refl _ _ | exact own1 _ _ | exact own2 _ _ _ | exact own3 _ _ _ _ | exact own4 _ _ _ _ _⟩
set_option maxHeartbeats 1000000 in
theorem w14_17 (n r lo hi la a x : Int) (on mo : Bool) (w : World) (ha : 0 ≤ a) (ha2 : a < 65536) (g0 : 12288 ≤ (a % 32768)) (g1 : (a % 32768) < 16384) (hx : 0 ≤ x) (hx2 : x < 256) (hl : 0 ≤ lo) (hl2 : lo < 512) (ha3 : 0 ≤ la) : Calls Try.prog 14 #[.agg #[.int .i64 5, .int .i64 n, .int .i64 r, .bool on, .bool mo, .int .i64 lo, .int .i64 hi, .int .u8 la], .int .u16 a, .int .u8 x] w fun e w' => e = .returned (.tuple #[.agg #[.int .i64 5, .int .i64 n, .int .i64 r, .bool on, .bool mo, .int .i64 ((lo % 256 + x % 2 * 256)), .int .i64 hi, .int .u8 la], .bool (false)]) ∧ Below w.heap.size w w' := by
  go_enter Try.func14, Try.ntmps14
  go_wp2
  all_goals exact bodyPost_ret (v := .tuple #[.agg #[.int .i64 5, .int .i64 n, .int .i64 r, .bool on, .bool mo, .int .i64 ((lo % 256 + x % 2 * 256)), .int .i64 hi, .int .u8 la], .bool (false)]) (by simp [results, Try.results14, go_sem]) rfl ⟨rfl, by first | exact Below.refl _ _ | exact own1 _ _ | exact own2 _ _ _ | exact own3 _ _ _ _ | exact own4 _ _ _ _ _⟩
set_option maxHeartbeats 1000000 in
theorem w14_18 (n r lo hi la a x : Int) (on mo : Bool) (w : World) (ha : 0 ≤ a) (ha2 : a < 65536) (g0 : 16384 ≤ (a % 32768)) (g1 : (a % 32768) < 24576) (hx : 0 ≤ x) (hx2 : x < 256) (hl : 0 ≤ lo) (hl2 : lo < 512) (ha3 : 0 ≤ la) : Calls Try.prog 14 #[.agg #[.int .i64 5, .int .i64 n, .int .i64 r, .bool on, .bool mo, .int .i64 lo, .int .i64 hi, .int .u8 la], .int .u16 a, .int .u8 x] w fun e w' => e = .returned (.tuple #[.agg #[.int .i64 5, .int .i64 n, .int .i64 r, .bool on, .bool mo, .int .i64 lo, .int .i64 ((x % 16)), .int .u8 la], .bool (false)]) ∧ Below w.heap.size w w' := by
  go_enter Try.func14, Try.ntmps14
  go_wp2
  all_goals exact bodyPost_ret (v := .tuple #[.agg #[.int .i64 5, .int .i64 n, .int .i64 r, .bool on, .bool mo, .int .i64 lo, .int .i64 ((x % 16)), .int .u8 la], .bool (false)]) (by simp [results, Try.results14, go_sem]) rfl ⟨rfl, by first | exact Below.refl _ _ | exact own1 _ _ | exact own2 _ _ _ | exact own3 _ _ _ _ | exact own4 _ _ _ _ _⟩
set_option maxHeartbeats 1000000 in
theorem w14_19 (n r lo hi la a x : Int) (on mo : Bool) (w : World) (ha : 0 ≤ a) (ha2 : a < 65536) (g0 : 24576 ≤ (a % 32768)) (g1 : (a % 32768) < 32768) (hx : 0 ≤ x) (hx2 : x < 256) (hl : 0 ≤ lo) (hl2 : lo < 512) (ha3 : 0 ≤ la) : Calls Try.prog 14 #[.agg #[.int .i64 5, .int .i64 n, .int .i64 r, .bool on, .bool mo, .int .i64 lo, .int .i64 hi, .int .u8 la], .int .u16 a, .int .u8 x] w fun e w' => e = .returned (.tuple #[.agg #[.int .i64 5, .int .i64 n, .int .i64 r, .bool on, .bool mo, .int .i64 lo, .int .i64 hi, .int .u8 la], .bool (false)]) ∧ Below w.heap.size w w' := by
  go_enter Try.func14, Try.ntmps14
  go_wp2
  all_goals exact bodyPost_ret (v := .tuple #[.agg #[.int .i64 5, .int .i64 n, .int .i64 r, .bool on, .bool mo, .int .i64 lo, .int .i64 hi, .int .u8 la], .bool (false)]) (by simp [results, Try.results14, go_sem]) rfl ⟨rfl, by first | exact Below.refl _ _ | exact own1 _ _ | exact own2 _ _ _ | exact own3 _ _ _ _ | exact own4 _ _ _ _ _⟩
set_option maxHeartbeats 1000000 in
theorem w14_20 (n r lo hi la a x : Int) (on mo : Bool) (w : World) (ha : 0 ≤ a) (ha2 : a < 65536) (g0 : 0 ≤ (a % 32768)) (g1 : (a % 32768) < 32768) (hx : 0 ≤ x) (hx2 : x < 256) (hl : 0 ≤ lo) (hl2 : lo < 512) (ha3 : 0 ≤ la) : Calls Try.prog 14 #[.agg #[.int .i64 0, .int .i64 n, .int .i64 r, .bool on, .bool mo, .int .i64 lo, .int .i64 hi, .int .u8 la], .int .u16 a, .int .u8 x] w fun e w' => e = .returned (.tuple #[.agg #[.int .i64 0, .int .i64 n, .int .i64 r, .bool on, .bool mo, .int .i64 lo, .int .i64 hi, .int .u8 la], .bool (false)]) ∧ Below w.heap.size w w' := by
  go_enter Try.func14, Try.ntmps14
  go_wp2
  all_goals exact bodyPost_ret (v := .tuple #[.agg #[.int .i64 0, .int .i64 n, .int .i64 r, .bool on, .bool mo, .int .i64 lo, .int .i64 hi, .int .u8 la], .bool (false)]) (by simp [results, Try.results14, go_sem]) rfl ⟨rfl, by first | exact Below.refl _ _ | exact own1 _ _ | exact own2 _ _ _ | exact own3 _ _ _ _ | exact own4 _ _ _ _ _⟩
set_option maxHeartbeats 1000000 in
theorem w14_21 (n r lo hi la a x : Int) (on mo : Bool) (w : World) (ha : 0 ≤ a) (ha2 : a < 65536) (g0 : 0 ≤ (a % 32768)) (g1 : (a % 32768) < 32768) (hx : 0 ≤ x) (hx2 : x < 256) (hl : 0 ≤ lo) (hl2 : lo < 512) (ha3 : 0 ≤ la) : Calls Try.prog 14 #[.agg #[.int .i64 4, .int .i64 n, .int .i64 r, .bool on, .bool mo, .int .i64 lo, .int .i64 hi, .int .u8 la], .int .u16 a, .int .u8 x] w fun e w' => e = .returned (.tuple #[.agg #[.int .i64 4, .int .i64 n, .int .i64 r, .bool on, .bool mo, .int .i64 lo, .int .i64 hi, .int .u8 la], .bool (false)]) ∧ Below w.heap.size w w' := by
  go_enter Try.func14, Try.ntmps14
  go_wp2
  all_goals exact bodyPost_ret (v := .tuple #[.agg #[.int .i64 4, .int .i64 n, .int .i64 r, .bool on, .bool mo, .int .i64 lo, .int .i64 hi, .int .u8 la], .bool (false)]) (by simp [results, Try.results14, go_sem]) rfl ⟨rfl, by first | exact Below.refl _ _ | exact own1 _ _ | exact own2 _ _ _ | exact own3 _ _ _ _ | exact own4 _ _ _ _ _⟩
end Go.Proofs.Ytafmmffgenolaaa
