/-
  What a map shows, each way: for every map; no condition but that each number fits.
-/
import Derived.Test.YtafmmffgenolaaaBits
namespace Go.Proofs.Ytafmmffgenolaaa
open Go.ChangeShapes Go.WideShapes Go.ChangeAt Go.RowKit
set_option linter.unusedVariables false
set_option linter.unusedSimpArgs false
set_option maxRecDepth 100000
set_option maxHeartbeats 1000000 in
theorem cl17_0 (n r lo hi la : Int) (on mo : Bool) (w : World) (hr : 0 ≤ r) (hr2 : r ≤ 131072) (hh : 0 ≤ hi) (hh2 : hi < 16) (hl : 0 ≤ lo) (hl2 : lo < 512) (hn : 0 < n) (hn2 : n ≤ 512) (c0 : hi < 8) : Calls Try.prog 17 #[.agg #[.int .i64 3, .int .i64 n, .int .i64 r, .bool true, .bool mo, .int .i64 lo, .int .i64 hi, .int .u8 la]] w fun e w' => e = .returned (.tuple #[.int .i64 (0), .bool false]) ∧ Below w.heap.size w w' := by
  go_enter Try.func17, Try.ntmps17
  go_wp2
  all_goals (go_ret2; exact ⟨rfl, by first | exact Below.refl _ _ | exact own1 _ _ | exact own2 _ _ _ | exact own3 _ _ _ _ | exact own4 _ _ _ _ _⟩)
set_option maxHeartbeats 1000000 in
theorem cl17_1 (n r lo hi la : Int) (on mo : Bool) (w : World) (hr : 0 ≤ r) (hr2 : r ≤ 131072) (hh : 0 ≤ hi) (hh2 : hi < 16) (hl : 0 ≤ lo) (hl2 : lo < 512) (hn : 0 < n) (hn2 : n ≤ 512) (c0 : 12 < hi) : Calls Try.prog 17 #[.agg #[.int .i64 3, .int .i64 n, .int .i64 r, .bool true, .bool mo, .int .i64 lo, .int .i64 hi, .int .u8 la]] w fun e w' => e = .returned (.tuple #[.int .i64 (0), .bool false]) ∧ Below w.heap.size w w' := by
  go_enter Try.func17, Try.ntmps17
  go_wp2
  all_goals (go_ret2; exact ⟨rfl, by first | exact Below.refl _ _ | exact own1 _ _ | exact own2 _ _ _ | exact own3 _ _ _ _ | exact own4 _ _ _ _ _⟩)
set_option maxHeartbeats 1000000 in
theorem cl17_2 (n r lo hi la : Int) (on mo : Bool) (w : World) (hr : 0 ≤ r) (hr2 : r ≤ 131072) (hh : 0 ≤ hi) (hh2 : hi < 16) (hl : 0 ≤ lo) (hl2 : lo < 512) (hn : 0 < n) (hn2 : n ≤ 512) (c0 : 8 ≤ hi) (c1 : hi ≤ 12) : Calls Try.prog 17 #[.agg #[.int .i64 3, .int .i64 n, .int .i64 r, .bool true, .bool mo, .int .i64 lo, .int .i64 hi, .int .u8 la]] w fun e w' => e = .returned (.tuple #[.int .i64 (hi - 8), .bool true]) ∧ Below w.heap.size w w' := by
  go_enter Try.func17, Try.ntmps17
  go_wp2
  all_goals (go_ret2; exact ⟨rfl, by first | exact Below.refl _ _ | exact own1 _ _ | exact own2 _ _ _ | exact own3 _ _ _ _ | exact own4 _ _ _ _ _⟩)
set_option maxHeartbeats 1000000 in
theorem cl17_3 (n r lo hi la : Int) (on mo : Bool) (w : World) (hr : 0 ≤ r) (hr2 : r ≤ 131072) (hh : 0 ≤ hi) (hh2 : hi < 16) (hl : 0 ≤ lo) (hl2 : lo < 512) (hn : 0 < n) (hn2 : n ≤ 512)  : Calls Try.prog 17 #[.agg #[.int .i64 3, .int .i64 n, .int .i64 r, .bool false, .bool mo, .int .i64 lo, .int .i64 hi, .int .u8 la]] w fun e w' => e = .returned (.tuple #[.int .i64 (0), .bool false]) ∧ Below w.heap.size w w' := by
  go_enter Try.func17, Try.ntmps17
  go_wp2
  all_goals (go_ret2; exact ⟨rfl, by first | exact Below.refl _ _ | exact own1 _ _ | exact own2 _ _ _ | exact own3 _ _ _ _ | exact own4 _ _ _ _ _⟩)
set_option maxHeartbeats 1000000 in
theorem cl17_4 (k n r lo hi la : Int) (on mo : Bool) (w : World) (hr : 0 ≤ r) (hr2 : r ≤ 131072) (hh : 0 ≤ hi) (hh2 : hi < 16) (hl : 0 ≤ lo) (hl2 : lo < 512) (hn : 0 < n) (hn2 : n ≤ 512) (c0 : (k == 3) = false) (c1 : (k != 3) = true) : Calls Try.prog 17 #[.agg #[.int .i64 k, .int .i64 n, .int .i64 r, .bool on, .bool mo, .int .i64 lo, .int .i64 hi, .int .u8 la]] w fun e w' => e = .returned (.tuple #[.int .i64 (0), .bool false]) ∧ Below w.heap.size w w' := by
  go_enter Try.func17, Try.ntmps17
  go_wp2
  all_goals (go_ret2; exact ⟨rfl, by first | exact Below.refl _ _ | exact own1 _ _ | exact own2 _ _ _ | exact own3 _ _ _ _ | exact own4 _ _ _ _ _⟩)
set_option maxHeartbeats 1000000 in
theorem cl18_0 (n r lo hi la : Int) (on mo : Bool) (w : World) (hr : 0 ≤ r) (hr2 : r ≤ 131072) (hh : 0 ≤ hi) (hh2 : hi < 16) (hl : 0 ≤ lo) (hl2 : lo < 512) (hn : 0 < n) (hn2 : n ≤ 512) (c0 : hi < 8) : Calls Try.prog 18 #[.agg #[.int .i64 3, .int .i64 n, .int .i64 r, .bool true, .bool mo, .int .i64 lo, .int .i64 hi, .int .u8 la]] w fun e w' => e = .returned (.tuple #[.int .i64 (0), .bool false]) ∧ Below w.heap.size w w' := by
  go_enter Try.func18, Try.ntmps18
  go_wp2
  all_goals (go_ret2; exact ⟨rfl, by first | exact Below.refl _ _ | exact own1 _ _ | exact own2 _ _ _ | exact own3 _ _ _ _ | exact own4 _ _ _ _ _⟩)
set_option maxHeartbeats 1000000 in
theorem cl18_1 (n r lo hi la : Int) (on mo : Bool) (w : World) (hr : 0 ≤ r) (hr2 : r ≤ 131072) (hh : 0 ≤ hi) (hh2 : hi < 16) (hl : 0 ≤ lo) (hl2 : lo < 512) (hn : 0 < n) (hn2 : n ≤ 512) (c0 : 12 < hi) : Calls Try.prog 18 #[.agg #[.int .i64 3, .int .i64 n, .int .i64 r, .bool true, .bool mo, .int .i64 lo, .int .i64 hi, .int .u8 la]] w fun e w' => e = .returned (.tuple #[.int .i64 (0), .bool false]) ∧ Below w.heap.size w w' := by
  go_enter Try.func18, Try.ntmps18
  go_wp2
  all_goals (go_ret2; exact ⟨rfl, by first | exact Below.refl _ _ | exact own1 _ _ | exact own2 _ _ _ | exact own3 _ _ _ _ | exact own4 _ _ _ _ _⟩)
set_option maxHeartbeats 1000000 in
theorem cl18_2 (n r lo hi la : Int) (on mo : Bool) (w : World) (hr : 0 ≤ r) (hr2 : r ≤ 131072) (hh : 0 ≤ hi) (hh2 : hi < 16) (hl : 0 ≤ lo) (hl2 : lo < 512) (hn : 0 < n) (hn2 : n ≤ 512) (c0 : 8 ≤ hi) (c1 : hi ≤ 12) : Calls Try.prog 18 #[.agg #[.int .i64 3, .int .i64 n, .int .i64 r, .bool true, .bool mo, .int .i64 lo, .int .i64 hi, .int .u8 la]] w fun e w' => e = .returned (.tuple #[.int .i64 (hi - 8), .bool true]) ∧ Below w.heap.size w w' := by
  go_enter Try.func18, Try.ntmps18
  go_wp2
  all_goals (go_ret2; exact ⟨rfl, by first | exact Below.refl _ _ | exact own1 _ _ | exact own2 _ _ _ | exact own3 _ _ _ _ | exact own4 _ _ _ _ _⟩)
set_option maxHeartbeats 1000000 in
theorem cl18_3 (n r lo hi la : Int) (on mo : Bool) (w : World) (hr : 0 ≤ r) (hr2 : r ≤ 131072) (hh : 0 ≤ hi) (hh2 : hi < 16) (hl : 0 ≤ lo) (hl2 : lo < 512) (hn : 0 < n) (hn2 : n ≤ 512)  : Calls Try.prog 18 #[.agg #[.int .i64 3, .int .i64 n, .int .i64 r, .bool false, .bool mo, .int .i64 lo, .int .i64 hi, .int .u8 la]] w fun e w' => e = .returned (.tuple #[.int .i64 (0), .bool false]) ∧ Below w.heap.size w w' := by
  go_enter Try.func18, Try.ntmps18
  go_wp2
  all_goals (go_ret2; exact ⟨rfl, by first | exact Below.refl _ _ | exact own1 _ _ | exact own2 _ _ _ | exact own3 _ _ _ _ | exact own4 _ _ _ _ _⟩)
set_option maxHeartbeats 1000000 in
theorem cl18_4 (k n r lo hi la : Int) (on mo : Bool) (w : World) (hr : 0 ≤ r) (hr2 : r ≤ 131072) (hh : 0 ≤ hi) (hh2 : hi < 16) (hl : 0 ≤ lo) (hl2 : lo < 512) (hn : 0 < n) (hn2 : n ≤ 512) (c0 : (k == 3) = false) (c1 : (k != 3) = true) : Calls Try.prog 18 #[.agg #[.int .i64 k, .int .i64 n, .int .i64 r, .bool on, .bool mo, .int .i64 lo, .int .i64 hi, .int .u8 la]] w fun e w' => e = .returned (.tuple #[.int .i64 (0), .bool false]) ∧ Below w.heap.size w w' := by
  go_enter Try.func18, Try.ntmps18
  go_wp2
  all_goals (go_ret2; exact ⟨rfl, by first | exact Below.refl _ _ | exact own1 _ _ | exact own2 _ _ _ | exact own3 _ _ _ _ | exact own4 _ _ _ _ _⟩)
set_option maxHeartbeats 1000000 in
theorem bk29_0 (n r lo hi la : Int) (on mo : Bool) (w : World) (hr : 0 ≤ r) (hr2 : r ≤ 131072) (hh : 0 ≤ hi) (hh2 : hi < 16) (hl : 0 ≤ lo) (hl2 : lo < 512) (hn : 0 < n) (hn2 : n ≤ 512) : Calls Try.prog 29 #[.agg #[.int .i64 1, .int .i64 n, .int .i64 r, .bool on, .bool true, .int .i64 lo, .int .i64 hi, .int .u8 la]] w fun e w' => e = .returned (.int .i64 (32 * hi)) ∧ Below w.heap.size w w' := by
  go_enter Try.func29, Try.ntmps29
  go_wp2
  all_goals (go_ret; exact ⟨rfl, by first | exact Below.refl _ _ | exact own1 _ _ | exact own2 _ _ _ | exact own3 _ _ _ _ | exact own4 _ _ _ _ _⟩)
set_option maxHeartbeats 1000000 in
theorem bk29_1 (n r lo hi la : Int) (on mo : Bool) (w : World) (hr : 0 ≤ r) (hr2 : r ≤ 131072) (hh : 0 ≤ hi) (hh2 : hi < 16) (hl : 0 ≤ lo) (hl2 : lo < 512) (hn : 0 < n) (hn2 : n ≤ 512) : Calls Try.prog 29 #[.agg #[.int .i64 1, .int .i64 n, .int .i64 r, .bool on, .bool false, .int .i64 lo, .int .i64 hi, .int .u8 la]] w fun e w' => e = .returned (.int .i64 (0)) ∧ Below w.heap.size w w' := by
  go_enter Try.func29, Try.ntmps29
  go_wp2
  all_goals (go_ret; exact ⟨rfl, by first | exact Below.refl _ _ | exact own1 _ _ | exact own2 _ _ _ | exact own3 _ _ _ _ | exact own4 _ _ _ _ _⟩)
set_option maxHeartbeats 1000000 in
theorem bk29_2 (n r lo hi la : Int) (on mo : Bool) (w : World) (hr : 0 ≤ r) (hr2 : r ≤ 131072) (hh : 0 ≤ hi) (hh2 : hi < 16) (hl : 0 ≤ lo) (hl2 : lo < 512) (hn : 0 < n) (hn2 : n ≤ 512) : Calls Try.prog 29 #[.agg #[.int .i64 0, .int .i64 n, .int .i64 r, .bool on, .bool mo, .int .i64 lo, .int .i64 hi, .int .u8 la]] w fun e w' => e = .returned (.int .i64 (0)) ∧ Below w.heap.size w w' := by
  go_enter Try.func29, Try.ntmps29
  go_wp2
  all_goals (go_ret; exact ⟨rfl, by first | exact Below.refl _ _ | exact own1 _ _ | exact own2 _ _ _ | exact own3 _ _ _ _ | exact own4 _ _ _ _ _⟩)
set_option maxHeartbeats 1000000 in
theorem bk29_3 (n r lo hi la : Int) (on mo : Bool) (w : World) (hr : 0 ≤ r) (hr2 : r ≤ 131072) (hh : 0 ≤ hi) (hh2 : hi < 16) (hl : 0 ≤ lo) (hl2 : lo < 512) (hn : 0 < n) (hn2 : n ≤ 512) : Calls Try.prog 29 #[.agg #[.int .i64 2, .int .i64 n, .int .i64 r, .bool on, .bool mo, .int .i64 lo, .int .i64 hi, .int .u8 la]] w fun e w' => e = .returned (.int .i64 (0)) ∧ Below w.heap.size w w' := by
  go_enter Try.func29, Try.ntmps29
  go_wp2
  all_goals (go_ret; exact ⟨rfl, by first | exact Below.refl _ _ | exact own1 _ _ | exact own2 _ _ _ | exact own3 _ _ _ _ | exact own4 _ _ _ _ _⟩)
set_option maxHeartbeats 1000000 in
theorem bk29_4 (n r lo hi la : Int) (on mo : Bool) (w : World) (hr : 0 ≤ r) (hr2 : r ≤ 131072) (hh : 0 ≤ hi) (hh2 : hi < 16) (hl : 0 ≤ lo) (hl2 : lo < 512) (hn : 0 < n) (hn2 : n ≤ 512) : Calls Try.prog 29 #[.agg #[.int .i64 3, .int .i64 n, .int .i64 r, .bool on, .bool mo, .int .i64 lo, .int .i64 hi, .int .u8 la]] w fun e w' => e = .returned (.int .i64 (0)) ∧ Below w.heap.size w w' := by
  go_enter Try.func29, Try.ntmps29
  go_wp2
  all_goals (go_ret; exact ⟨rfl, by first | exact Below.refl _ _ | exact own1 _ _ | exact own2 _ _ _ | exact own3 _ _ _ _ | exact own4 _ _ _ _ _⟩)
set_option maxHeartbeats 1000000 in
theorem bk29_5 (n r lo hi la : Int) (on mo : Bool) (w : World) (hr : 0 ≤ r) (hr2 : r ≤ 131072) (hh : 0 ≤ hi) (hh2 : hi < 16) (hl : 0 ≤ lo) (hl2 : lo < 512) (hn : 0 < n) (hn2 : n ≤ 512) : Calls Try.prog 29 #[.agg #[.int .i64 4, .int .i64 n, .int .i64 r, .bool on, .bool mo, .int .i64 lo, .int .i64 hi, .int .u8 la]] w fun e w' => e = .returned (.int .i64 (0)) ∧ Below w.heap.size w w' := by
  go_enter Try.func29, Try.ntmps29
  go_wp2
  all_goals (go_ret; exact ⟨rfl, by first | exact Below.refl _ _ | exact own1 _ _ | exact own2 _ _ _ | exact own3 _ _ _ _ | exact own4 _ _ _ _ _⟩)
set_option maxHeartbeats 1000000 in
theorem bk29_6 (n r lo hi la : Int) (on mo : Bool) (w : World) (hr : 0 ≤ r) (hr2 : r ≤ 131072) (hh : 0 ≤ hi) (hh2 : hi < 16) (hl : 0 ≤ lo) (hl2 : lo < 512) (hn : 0 < n) (hn2 : n ≤ 512) : Calls Try.prog 29 #[.agg #[.int .i64 5, .int .i64 n, .int .i64 r, .bool on, .bool mo, .int .i64 lo, .int .i64 hi, .int .u8 la]] w fun e w' => e = .returned (.int .i64 (0)) ∧ Below w.heap.size w w' := by
  go_enter Try.func29, Try.ntmps29
  go_wp2
  all_goals (go_ret; exact ⟨rfl, by first | exact Below.refl _ _ | exact own1 _ _ | exact own2 _ _ _ | exact own3 _ _ _ _ | exact own4 _ _ _ _ _⟩)
set_option maxHeartbeats 1000000 in
theorem bk30_7 (n r lo hi la : Int) (on mo : Bool) (w : World) (hr : 0 ≤ r) (hr2 : r ≤ 131072) (hh : 0 ≤ hi) (hh2 : hi < 16) (hl : 0 ≤ lo) (hl2 : lo < 512) (hn : 0 < n) (hn2 : n ≤ 512) : Calls Try.prog 30 #[.agg #[.int .i64 0, .int .i64 n, .int .i64 r, .bool on, .bool mo, .int .i64 lo, .int .i64 hi, .int .u8 la]] w fun e w' => e = .returned (.int .i64 (1)) ∧ Below w.heap.size w w' := by
  go_enter Try.func30, Try.ntmps30
  go_wp2
  all_goals (go_ret; exact ⟨rfl, by first | exact Below.refl _ _ | exact own1 _ _ | exact own2 _ _ _ | exact own3 _ _ _ _ | exact own4 _ _ _ _ _⟩)
set_option maxHeartbeats 1000000 in
theorem bk30_8 (n r lo hi la : Int) (on mo : Bool) (w : World) (hr : 0 ≤ r) (hr2 : r ≤ 131072) (hh : 0 ≤ hi) (hh2 : hi < 16) (hl : 0 ≤ lo) (hl2 : lo < 512) (hn : 0 < n) (hn2 : n ≤ 512) : Calls Try.prog 30 #[.agg #[.int .i64 1, .int .i64 n, .int .i64 r, .bool on, .bool mo, .int .i64 lo, .int .i64 hi, .int .u8 la]] w fun e w' => e = .returned (.int .i64 (32 * hi + lo)) ∧ Below w.heap.size w w' := by
  go_enter Try.func30, Try.ntmps30
  go_wp2
  all_goals (go_ret; exact ⟨rfl, by first | exact Below.refl _ _ | exact own1 _ _ | exact own2 _ _ _ | exact own3 _ _ _ _ | exact own4 _ _ _ _ _⟩)
set_option maxHeartbeats 1000000 in
theorem bk30_9 (n r lo hi la : Int) (on mo : Bool) (w : World) (hr : 0 ≤ r) (hr2 : r ≤ 131072) (hh : 0 ≤ hi) (hh2 : hi < 16) (hl : 0 ≤ lo) (hl2 : lo < 512) (hn : 0 < n) (hn2 : n ≤ 512) : Calls Try.prog 30 #[.agg #[.int .i64 2, .int .i64 n, .int .i64 r, .bool on, .bool mo, .int .i64 lo, .int .i64 hi, .int .u8 la]] w fun e w' => e = .returned (.int .i64 (lo)) ∧ Below w.heap.size w w' := by
  go_enter Try.func30, Try.ntmps30
  go_wp2
  all_goals (go_ret; exact ⟨rfl, by first | exact Below.refl _ _ | exact own1 _ _ | exact own2 _ _ _ | exact own3 _ _ _ _ | exact own4 _ _ _ _ _⟩)
set_option maxHeartbeats 1000000 in
theorem bk30_10 (n r lo hi la : Int) (on mo : Bool) (w : World) (hr : 0 ≤ r) (hr2 : r ≤ 131072) (hh : 0 ≤ hi) (hh2 : hi < 16) (hl : 0 ≤ lo) (hl2 : lo < 512) (hn : 0 < n) (hn2 : n ≤ 512) : Calls Try.prog 30 #[.agg #[.int .i64 3, .int .i64 n, .int .i64 r, .bool on, .bool mo, .int .i64 lo, .int .i64 hi, .int .u8 la]] w fun e w' => e = .returned (.int .i64 (lo)) ∧ Below w.heap.size w w' := by
  go_enter Try.func30, Try.ntmps30
  go_wp2
  all_goals (go_ret; exact ⟨rfl, by first | exact Below.refl _ _ | exact own1 _ _ | exact own2 _ _ _ | exact own3 _ _ _ _ | exact own4 _ _ _ _ _⟩)
set_option maxHeartbeats 1000000 in
theorem bk30_11 (n r lo hi la : Int) (on mo : Bool) (w : World) (hr : 0 ≤ r) (hr2 : r ≤ 131072) (hh : 0 ≤ hi) (hh2 : hi < 16) (hl : 0 ≤ lo) (hl2 : lo < 512) (hn : 0 < n) (hn2 : n ≤ 512) : Calls Try.prog 30 #[.agg #[.int .i64 4, .int .i64 n, .int .i64 r, .bool on, .bool mo, .int .i64 lo, .int .i64 hi, .int .u8 la]] w fun e w' => e = .returned (.int .i64 (0)) ∧ Below w.heap.size w w' := by
  go_enter Try.func30, Try.ntmps30
  go_wp2
  all_goals (go_ret; exact ⟨rfl, by first | exact Below.refl _ _ | exact own1 _ _ | exact own2 _ _ _ | exact own3 _ _ _ _ | exact own4 _ _ _ _ _⟩)
set_option maxHeartbeats 1000000 in
theorem bk30_12 (n r lo hi la : Int) (on mo : Bool) (w : World) (hr : 0 ≤ r) (hr2 : r ≤ 131072) (hh : 0 ≤ hi) (hh2 : hi < 16) (hl : 0 ≤ lo) (hl2 : lo < 512) (hn : 0 < n) (hn2 : n ≤ 512) : Calls Try.prog 30 #[.agg #[.int .i64 5, .int .i64 n, .int .i64 r, .bool on, .bool mo, .int .i64 lo, .int .i64 hi, .int .u8 la]] w fun e w' => e = .returned (.int .i64 (lo)) ∧ Below w.heap.size w w' := by
  go_enter Try.func30, Try.ntmps30
  go_wp2
  all_goals (go_ret; exact ⟨rfl, by first | exact Below.refl _ _ | exact own1 _ _ | exact own2 _ _ _ | exact own3 _ _ _ _ | exact own4 _ _ _ _ _⟩)
set_option maxHeartbeats 1000000 in
theorem bk20_0 (n r lo hi la a : Int) (on mo : Bool) (w : World) (ha : 0 ≤ a) (ha2 : a < 65536) (hr : 0 ≤ r) (hr2 : r ≤ 131072) (hh : 0 ≤ hi) (hh2 : hi < 16) (hl : 0 ≤ lo) (hl2 : lo < 512) (hn : 0 < n) (hn2 : n ≤ 512) (c0 : a % 32768 < 16384) : Calls Try.prog 20 #[.agg #[.int .i64 1, .int .i64 n, .int .i64 r, .bool on, .bool true, .int .i64 lo, .int .i64 hi, .int .u8 la], .int .u16 a] w fun e w' => e = .returned (.int .i64 ((32 * hi) % n)) ∧ Below w.heap.size w w' := by
  have q3 : ¬ n = 0 := by omega
  have q4 : ¬ n < 1 := by omega
  have q0 : ¬ 32 * hi < 0 := by omega
  go_enter Try.func20, Try.ntmps20
  go_wp2
  all_goals (go_ret; exact ⟨rfl, by first | exact Below.refl _ _ | exact own1 _ _ | exact own2 _ _ _ | exact own3 _ _ _ _ | exact own4 _ _ _ _ _⟩)
set_option maxHeartbeats 1000000 in
theorem bk20_1 (n r lo hi la a : Int) (on mo : Bool) (w : World) (ha : 0 ≤ a) (ha2 : a < 65536) (hr : 0 ≤ r) (hr2 : r ≤ 131072) (hh : 0 ≤ hi) (hh2 : hi < 16) (hl : 0 ≤ lo) (hl2 : lo < 512) (hn : 0 < n) (hn2 : n ≤ 512) (c0 : a % 32768 < 16384) : Calls Try.prog 20 #[.agg #[.int .i64 1, .int .i64 n, .int .i64 r, .bool on, .bool false, .int .i64 lo, .int .i64 hi, .int .u8 la], .int .u16 a] w fun e w' => e = .returned (.int .i64 ((0) % n)) ∧ Below w.heap.size w w' := by
  have q3 : ¬ n = 0 := by omega
  have q4 : ¬ n < 1 := by omega
  go_enter Try.func20, Try.ntmps20
  go_wp2
  all_goals (go_ret; exact ⟨by simp, by first | exact Below.refl _ _ | exact own1 _ _ | exact own2 _ _ _ | exact own3 _ _ _ _ | exact own4 _ _ _ _ _⟩)
set_option maxHeartbeats 1000000 in
theorem bk20_2 (n r lo hi la a : Int) (on mo : Bool) (w : World) (ha : 0 ≤ a) (ha2 : a < 65536) (hr : 0 ≤ r) (hr2 : r ≤ 131072) (hh : 0 ≤ hi) (hh2 : hi < 16) (hl : 0 ≤ lo) (hl2 : lo < 512) (hn : 0 < n) (hn2 : n ≤ 512) (c0 : a % 32768 < 16384) : Calls Try.prog 20 #[.agg #[.int .i64 0, .int .i64 n, .int .i64 r, .bool on, .bool mo, .int .i64 lo, .int .i64 hi, .int .u8 la], .int .u16 a] w fun e w' => e = .returned (.int .i64 ((0) % n)) ∧ Below w.heap.size w w' := by
  have q3 : ¬ n = 0 := by omega
  have q4 : ¬ n < 1 := by omega
  go_enter Try.func20, Try.ntmps20
  go_wp2
  all_goals (go_ret; exact ⟨by simp, by first | exact Below.refl _ _ | exact own1 _ _ | exact own2 _ _ _ | exact own3 _ _ _ _ | exact own4 _ _ _ _ _⟩)
set_option maxHeartbeats 1000000 in
theorem bk20_3 (n r lo hi la a : Int) (on mo : Bool) (w : World) (ha : 0 ≤ a) (ha2 : a < 65536) (hr : 0 ≤ r) (hr2 : r ≤ 131072) (hh : 0 ≤ hi) (hh2 : hi < 16) (hl : 0 ≤ lo) (hl2 : lo < 512) (hn : 0 < n) (hn2 : n ≤ 512) (c0 : a % 32768 < 16384) : Calls Try.prog 20 #[.agg #[.int .i64 2, .int .i64 n, .int .i64 r, .bool on, .bool mo, .int .i64 lo, .int .i64 hi, .int .u8 la], .int .u16 a] w fun e w' => e = .returned (.int .i64 ((0) % n)) ∧ Below w.heap.size w w' := by
  have q3 : ¬ n = 0 := by omega
  have q4 : ¬ n < 1 := by omega
  go_enter Try.func20, Try.ntmps20
  go_wp2
  all_goals (go_ret; exact ⟨by simp, by first | exact Below.refl _ _ | exact own1 _ _ | exact own2 _ _ _ | exact own3 _ _ _ _ | exact own4 _ _ _ _ _⟩)
set_option maxHeartbeats 1000000 in
theorem bk20_4 (n r lo hi la a : Int) (on mo : Bool) (w : World) (ha : 0 ≤ a) (ha2 : a < 65536) (hr : 0 ≤ r) (hr2 : r ≤ 131072) (hh : 0 ≤ hi) (hh2 : hi < 16) (hl : 0 ≤ lo) (hl2 : lo < 512) (hn : 0 < n) (hn2 : n ≤ 512) (c0 : a % 32768 < 16384) : Calls Try.prog 20 #[.agg #[.int .i64 3, .int .i64 n, .int .i64 r, .bool on, .bool mo, .int .i64 lo, .int .i64 hi, .int .u8 la], .int .u16 a] w fun e w' => e = .returned (.int .i64 ((0) % n)) ∧ Below w.heap.size w w' := by
  have q3 : ¬ n = 0 := by omega
  have q4 : ¬ n < 1 := by omega
  go_enter Try.func20, Try.ntmps20
  go_wp2
  all_goals (go_ret; exact ⟨by simp, by first | exact Below.refl _ _ | exact own1 _ _ | exact own2 _ _ _ | exact own3 _ _ _ _ | exact own4 _ _ _ _ _⟩)
set_option maxHeartbeats 1000000 in
theorem bk20_5 (n r lo hi la a : Int) (on mo : Bool) (w : World) (ha : 0 ≤ a) (ha2 : a < 65536) (hr : 0 ≤ r) (hr2 : r ≤ 131072) (hh : 0 ≤ hi) (hh2 : hi < 16) (hl : 0 ≤ lo) (hl2 : lo < 512) (hn : 0 < n) (hn2 : n ≤ 512) (c0 : a % 32768 < 16384) : Calls Try.prog 20 #[.agg #[.int .i64 4, .int .i64 n, .int .i64 r, .bool on, .bool mo, .int .i64 lo, .int .i64 hi, .int .u8 la], .int .u16 a] w fun e w' => e = .returned (.int .i64 ((0) % n)) ∧ Below w.heap.size w w' := by
  have q3 : ¬ n = 0 := by omega
  have q4 : ¬ n < 1 := by omega
  go_enter Try.func20, Try.ntmps20
  go_wp2
  all_goals (go_ret; exact ⟨by simp, by first | exact Below.refl _ _ | exact own1 _ _ | exact own2 _ _ _ | exact own3 _ _ _ _ | exact own4 _ _ _ _ _⟩)
set_option maxHeartbeats 1000000 in
theorem bk20_6 (n r lo hi la a : Int) (on mo : Bool) (w : World) (ha : 0 ≤ a) (ha2 : a < 65536) (hr : 0 ≤ r) (hr2 : r ≤ 131072) (hh : 0 ≤ hi) (hh2 : hi < 16) (hl : 0 ≤ lo) (hl2 : lo < 512) (hn : 0 < n) (hn2 : n ≤ 512) (c0 : a % 32768 < 16384) : Calls Try.prog 20 #[.agg #[.int .i64 5, .int .i64 n, .int .i64 r, .bool on, .bool mo, .int .i64 lo, .int .i64 hi, .int .u8 la], .int .u16 a] w fun e w' => e = .returned (.int .i64 ((0) % n)) ∧ Below w.heap.size w w' := by
  have q3 : ¬ n = 0 := by omega
  have q4 : ¬ n < 1 := by omega
  go_enter Try.func20, Try.ntmps20
  go_wp2
  all_goals (go_ret; exact ⟨by simp, by first | exact Below.refl _ _ | exact own1 _ _ | exact own2 _ _ _ | exact own3 _ _ _ _ | exact own4 _ _ _ _ _⟩)
set_option maxHeartbeats 1000000 in
theorem bk20_7 (n r lo hi la a : Int) (on mo : Bool) (w : World) (ha : 0 ≤ a) (ha2 : a < 65536) (hr : 0 ≤ r) (hr2 : r ≤ 131072) (hh : 0 ≤ hi) (hh2 : hi < 16) (hl : 0 ≤ lo) (hl2 : lo < 512) (hn : 0 < n) (hn2 : n ≤ 512) (c0 : 16384 ≤ a % 32768) : Calls Try.prog 20 #[.agg #[.int .i64 0, .int .i64 n, .int .i64 r, .bool on, .bool mo, .int .i64 lo, .int .i64 hi, .int .u8 la], .int .u16 a] w fun e w' => e = .returned (.int .i64 ((1) % n)) ∧ Below w.heap.size w w' := by
  have q3 : ¬ n = 0 := by omega
  have q4 : ¬ n < 1 := by omega
  go_enter Try.func20, Try.ntmps20
  go_wp2
  all_goals (go_ret; exact ⟨rfl, by first | exact Below.refl _ _ | exact own1 _ _ | exact own2 _ _ _ | exact own3 _ _ _ _ | exact own4 _ _ _ _ _⟩)
set_option maxHeartbeats 1000000 in
theorem bk20_8 (n r lo hi la a : Int) (on mo : Bool) (w : World) (ha : 0 ≤ a) (ha2 : a < 65536) (hr : 0 ≤ r) (hr2 : r ≤ 131072) (hh : 0 ≤ hi) (hh2 : hi < 16) (hl : 0 ≤ lo) (hl2 : lo < 512) (hn : 0 < n) (hn2 : n ≤ 512) (c0 : 16384 ≤ a % 32768) : Calls Try.prog 20 #[.agg #[.int .i64 1, .int .i64 n, .int .i64 r, .bool on, .bool mo, .int .i64 lo, .int .i64 hi, .int .u8 la], .int .u16 a] w fun e w' => e = .returned (.int .i64 ((32 * hi + lo) % n)) ∧ Below w.heap.size w w' := by
  have q3 : ¬ n = 0 := by omega
  have q4 : ¬ n < 1 := by omega
  have q0 : ¬ 32 * hi + lo < 0 := by omega
  go_enter Try.func20, Try.ntmps20
  go_wp2
  all_goals (go_ret; exact ⟨rfl, by first | exact Below.refl _ _ | exact own1 _ _ | exact own2 _ _ _ | exact own3 _ _ _ _ | exact own4 _ _ _ _ _⟩)
set_option maxHeartbeats 1000000 in
theorem bk20_9 (n r lo hi la a : Int) (on mo : Bool) (w : World) (ha : 0 ≤ a) (ha2 : a < 65536) (hr : 0 ≤ r) (hr2 : r ≤ 131072) (hh : 0 ≤ hi) (hh2 : hi < 16) (hl : 0 ≤ lo) (hl2 : lo < 512) (hn : 0 < n) (hn2 : n ≤ 512) (c0 : 16384 ≤ a % 32768) : Calls Try.prog 20 #[.agg #[.int .i64 2, .int .i64 n, .int .i64 r, .bool on, .bool mo, .int .i64 lo, .int .i64 hi, .int .u8 la], .int .u16 a] w fun e w' => e = .returned (.int .i64 ((lo) % n)) ∧ Below w.heap.size w w' := by
  have q3 : ¬ n = 0 := by omega
  have q4 : ¬ n < 1 := by omega
  have q0 : ¬ lo < 0 := by omega
  go_enter Try.func20, Try.ntmps20
  go_wp2
  all_goals (go_ret; exact ⟨rfl, by first | exact Below.refl _ _ | exact own1 _ _ | exact own2 _ _ _ | exact own3 _ _ _ _ | exact own4 _ _ _ _ _⟩)
set_option maxHeartbeats 1000000 in
theorem bk20_10 (n r lo hi la a : Int) (on mo : Bool) (w : World) (ha : 0 ≤ a) (ha2 : a < 65536) (hr : 0 ≤ r) (hr2 : r ≤ 131072) (hh : 0 ≤ hi) (hh2 : hi < 16) (hl : 0 ≤ lo) (hl2 : lo < 512) (hn : 0 < n) (hn2 : n ≤ 512) (c0 : 16384 ≤ a % 32768) : Calls Try.prog 20 #[.agg #[.int .i64 3, .int .i64 n, .int .i64 r, .bool on, .bool mo, .int .i64 lo, .int .i64 hi, .int .u8 la], .int .u16 a] w fun e w' => e = .returned (.int .i64 ((lo) % n)) ∧ Below w.heap.size w w' := by
  have q3 : ¬ n = 0 := by omega
  have q4 : ¬ n < 1 := by omega
  have q0 : ¬ lo < 0 := by omega
  go_enter Try.func20, Try.ntmps20
  go_wp2
  all_goals (go_ret; exact ⟨rfl, by first | exact Below.refl _ _ | exact own1 _ _ | exact own2 _ _ _ | exact own3 _ _ _ _ | exact own4 _ _ _ _ _⟩)
set_option maxHeartbeats 1000000 in
theorem bk20_11 (n r lo hi la a : Int) (on mo : Bool) (w : World) (ha : 0 ≤ a) (ha2 : a < 65536) (hr : 0 ≤ r) (hr2 : r ≤ 131072) (hh : 0 ≤ hi) (hh2 : hi < 16) (hl : 0 ≤ lo) (hl2 : lo < 512) (hn : 0 < n) (hn2 : n ≤ 512) (c0 : 16384 ≤ a % 32768) : Calls Try.prog 20 #[.agg #[.int .i64 4, .int .i64 n, .int .i64 r, .bool on, .bool mo, .int .i64 lo, .int .i64 hi, .int .u8 la], .int .u16 a] w fun e w' => e = .returned (.int .i64 ((0) % n)) ∧ Below w.heap.size w w' := by
  have q3 : ¬ n = 0 := by omega
  have q4 : ¬ n < 1 := by omega
  go_enter Try.func20, Try.ntmps20
  go_wp2
  all_goals (go_ret; exact ⟨by simp, by first | exact Below.refl _ _ | exact own1 _ _ | exact own2 _ _ _ | exact own3 _ _ _ _ | exact own4 _ _ _ _ _⟩)
set_option maxHeartbeats 1000000 in
theorem bk20_12 (n r lo hi la a : Int) (on mo : Bool) (w : World) (ha : 0 ≤ a) (ha2 : a < 65536) (hr : 0 ≤ r) (hr2 : r ≤ 131072) (hh : 0 ≤ hi) (hh2 : hi < 16) (hl : 0 ≤ lo) (hl2 : lo < 512) (hn : 0 < n) (hn2 : n ≤ 512) (c0 : 16384 ≤ a % 32768) : Calls Try.prog 20 #[.agg #[.int .i64 5, .int .i64 n, .int .i64 r, .bool on, .bool mo, .int .i64 lo, .int .i64 hi, .int .u8 la], .int .u16 a] w fun e w' => e = .returned (.int .i64 ((lo) % n)) ∧ Below w.heap.size w w' := by
  have q3 : ¬ n = 0 := by omega
  have q4 : ¬ n < 1 := by omega
  have q0 : ¬ lo < 0 := by omega
  go_enter Try.func20, Try.ntmps20
  go_wp2
  all_goals (go_ret; exact ⟨rfl, by first | exact Below.refl _ _ | exact own1 _ _ | exact own2 _ _ _ | exact own3 _ _ _ _ | exact own4 _ _ _ _ _⟩)
end Go.Proofs.Ytafmmffgenolaaa
