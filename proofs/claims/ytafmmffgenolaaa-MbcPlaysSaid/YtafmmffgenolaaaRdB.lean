/-
  What a map shows, each way: for every map; no condition but that each number fits.
-/
import Derived.Test.YtafmmffgenolaaaBits
namespace Go.Proofs.Ytafmmffgenolaaa
open Go.ChangeShapes Go.WideShapes Go.ChangeAt Go.RowKit
set_option linter.unusedVariables false
set_option linter.unusedSimpArgs false
set_option maxRecDepth 100000
set_option maxHeartbeats 1000000 in
theorem at16_0 (k n r lo hi la a : Int) (on mo : Bool) (w : World) (ha : 0 ≤ a) (ha2 : a < 65536) (hr : 0 ≤ r) (hr2 : r ≤ 131072) (hh : 0 ≤ hi) (hh2 : hi < 16) (hl : 0 ≤ lo) (hl2 : lo < 512) (hn : 0 < n) (hn2 : n ≤ 512) (c0 : a < 40960) : Calls Try.prog 16 #[.agg #[.int .i64 k, .int .i64 n, .int .i64 r, .bool on, .bool mo, .int .i64 lo, .int .i64 hi, .int .u8 la], .int .u16 a] w fun e w' => e = .returned (.tuple #[.int .i64 (0), .bool false]) ∧ Below w.heap.size w w' := by
  go_enter Try.func16, Try.ntmps16
  go_wp2
  all_goals (go_ret2; exact ⟨rfl, by first | exact Below.refl _ _ | exact own1 _ _ | exact own2 _ _ _ | exact own3 _ _ _ _ | exact own4 _ _ _ _ _⟩)
set_option maxHeartbeats 1000000 in
theorem at16_1 (k n r lo hi la a : Int) (on mo : Bool) (w : World) (ha : 0 ≤ a) (ha2 : a < 65536) (hr : 0 ≤ r) (hr2 : r ≤ 131072) (hh : 0 ≤ hi) (hh2 : hi < 16) (hl : 0 ≤ lo) (hl2 : lo < 512) (hn : 0 < n) (hn2 : n ≤ 512) (c0 : 49151 < a) : Calls Try.prog 16 #[.agg #[.int .i64 k, .int .i64 n, .int .i64 r, .bool on, .bool mo, .int .i64 lo, .int .i64 hi, .int .u8 la], .int .u16 a] w fun e w' => e = .returned (.tuple #[.int .i64 (0), .bool false]) ∧ Below w.heap.size w w' := by
  go_enter Try.func16, Try.ntmps16
  go_wp2
  all_goals (go_ret2; exact ⟨rfl, by first | exact Below.refl _ _ | exact own1 _ _ | exact own2 _ _ _ | exact own3 _ _ _ _ | exact own4 _ _ _ _ _⟩)
set_option maxHeartbeats 1000000 in
theorem at16_2 (k n r lo hi la a : Int) (on mo : Bool) (w : World) (ha : 0 ≤ a) (ha2 : a < 65536) (hr : 0 ≤ r) (hr2 : r ≤ 131072) (hh : 0 ≤ hi) (hh2 : hi < 16) (hl : 0 ≤ lo) (hl2 : lo < 512) (hn : 0 < n) (hn2 : n ≤ 512) (c0 : 40960 ≤ a) (c1 : a ≤ 49151) : Calls Try.prog 16 #[.agg #[.int .i64 k, .int .i64 n, .int .i64 r, .bool false, .bool mo, .int .i64 lo, .int .i64 hi, .int .u8 la], .int .u16 a] w fun e w' => e = .returned (.tuple #[.int .i64 (0), .bool false]) ∧ Below w.heap.size w w' := by
  go_enter Try.func16, Try.ntmps16
  go_wp2
  all_goals (go_ret2; exact ⟨rfl, by first | exact Below.refl _ _ | exact own1 _ _ | exact own2 _ _ _ | exact own3 _ _ _ _ | exact own4 _ _ _ _ _⟩)
set_option maxHeartbeats 1000000 in
theorem at16_3 (k n r lo hi la a : Int) (on mo : Bool) (w : World) (ha : 0 ≤ a) (ha2 : a < 65536) (hr : 0 ≤ r) (hr2 : r ≤ 131072) (hh : 0 ≤ hi) (hh2 : hi < 16) (hl : 0 ≤ lo) (hl2 : lo < 512) (hn : 0 < n) (hn2 : n ≤ 512) (c0 : 40960 ≤ a) (c1 : a ≤ 49151) (c2 : r < 1) : Calls Try.prog 16 #[.agg #[.int .i64 k, .int .i64 n, .int .i64 r, .bool true, .bool mo, .int .i64 lo, .int .i64 hi, .int .u8 la], .int .u16 a] w fun e w' => e = .returned (.tuple #[.int .i64 (0), .bool false]) ∧ Below w.heap.size w w' := by
  go_enter Try.func16, Try.ntmps16
  go_wp2
  all_goals (go_ret2; exact ⟨rfl, by first | exact Below.refl _ _ | exact own1 _ _ | exact own2 _ _ _ | exact own3 _ _ _ _ | exact own4 _ _ _ _ _⟩)
set_option maxHeartbeats 1000000 in
theorem at16_4 (n r lo hi la a : Int) (on mo : Bool) (w : World) (ha : 0 ≤ a) (ha2 : a < 65536) (hr : 0 ≤ r) (hr2 : r ≤ 131072) (hh : 0 ≤ hi) (hh2 : hi < 16) (hl : 0 ≤ lo) (hl2 : lo < 512) (hn : 0 < n) (hn2 : n ≤ 512) (c0 : 40960 ≤ a) (c1 : a ≤ 49151) (c2 : 1 ≤ r) : Calls Try.prog 16 #[.agg #[.int .i64 0, .int .i64 n, .int .i64 r, .bool true, .bool mo, .int .i64 lo, .int .i64 hi, .int .u8 la], .int .u16 a] w fun e w' => e = .returned (.tuple #[.int .i64 (a % 8192 % r), .bool true]) ∧ Below w.heap.size w w' := by
  have q3 : ¬ r = 0 := by omega
  go_enter Try.func16, Try.ntmps16
  go_wp2
  all_goals (go_ret2; exact ⟨rfl, by first | exact Below.refl _ _ | exact own1 _ _ | exact own2 _ _ _ | exact own3 _ _ _ _ | exact own4 _ _ _ _ _⟩)
set_option maxHeartbeats 1000000 in
theorem at16_5 (n r lo hi la a : Int) (on mo : Bool) (w : World) (ha : 0 ≤ a) (ha2 : a < 65536) (hr : 0 ≤ r) (hr2 : r ≤ 131072) (hh : 0 ≤ hi) (hh2 : hi < 16) (hl : 0 ≤ lo) (hl2 : lo < 512) (hn : 0 < n) (hn2 : n ≤ 512) (c0 : 40960 ≤ a) (c1 : a ≤ 49151) (c2 : 1 ≤ r) : Calls Try.prog 16 #[.agg #[.int .i64 1, .int .i64 n, .int .i64 r, .bool true, .bool true, .int .i64 lo, .int .i64 hi, .int .u8 la], .int .u16 a] w fun e w' => e = .returned (.tuple #[.int .i64 ((8192 * hi + a % 8192) % r), .bool true]) ∧ Below w.heap.size w w' := by
  have q3 : ¬ r = 0 := by omega
  go_enter Try.func16, Try.ntmps16
  go_wp2
  all_goals (go_ret2; exact ⟨rfl, by first | exact Below.refl _ _ | exact own1 _ _ | exact own2 _ _ _ | exact own3 _ _ _ _ | exact own4 _ _ _ _ _⟩)
set_option maxHeartbeats 1000000 in
theorem at16_6 (n r lo hi la a : Int) (on mo : Bool) (w : World) (ha : 0 ≤ a) (ha2 : a < 65536) (hr : 0 ≤ r) (hr2 : r ≤ 131072) (hh : 0 ≤ hi) (hh2 : hi < 16) (hl : 0 ≤ lo) (hl2 : lo < 512) (hn : 0 < n) (hn2 : n ≤ 512) (c0 : 40960 ≤ a) (c1 : a ≤ 49151) (c2 : 1 ≤ r) : Calls Try.prog 16 #[.agg #[.int .i64 1, .int .i64 n, .int .i64 r, .bool true, .bool false, .int .i64 lo, .int .i64 hi, .int .u8 la], .int .u16 a] w fun e w' => e = .returned (.tuple #[.int .i64 (a % 8192 % r), .bool true]) ∧ Below w.heap.size w w' := by
  have q3 : ¬ r = 0 := by omega
  go_enter Try.func16, Try.ntmps16
  go_wp2
  all_goals (go_ret2; exact ⟨rfl, by first | exact Below.refl _ _ | exact own1 _ _ | exact own2 _ _ _ | exact own3 _ _ _ _ | exact own4 _ _ _ _ _⟩)
set_option maxHeartbeats 1000000 in
theorem at16_7 (n r lo hi la a : Int) (on mo : Bool) (w : World) (ha : 0 ≤ a) (ha2 : a < 65536) (hr : 0 ≤ r) (hr2 : r ≤ 131072) (hh : 0 ≤ hi) (hh2 : hi < 16) (hl : 0 ≤ lo) (hl2 : lo < 512) (hn : 0 < n) (hn2 : n ≤ 512) (c0 : 40960 ≤ a) (c1 : a ≤ 49151) (c2 : 1 ≤ r) : Calls Try.prog 16 #[.agg #[.int .i64 2, .int .i64 n, .int .i64 r, .bool true, .bool mo, .int .i64 lo, .int .i64 hi, .int .u8 la], .int .u16 a] w fun e w' => e = .returned (.tuple #[.int .i64 (a % 512 % r), .bool true]) ∧ Below w.heap.size w w' := by
  have q3 : ¬ r = 0 := by omega
  go_enter Try.func16, Try.ntmps16
  go_wp2
  all_goals (go_ret2; exact ⟨rfl, by first | exact Below.refl _ _ | exact own1 _ _ | exact own2 _ _ _ | exact own3 _ _ _ _ | exact own4 _ _ _ _ _⟩)
set_option maxHeartbeats 1000000 in
theorem at16_8 (n r lo hi la a : Int) (on mo : Bool) (w : World) (ha : 0 ≤ a) (ha2 : a < 65536) (hr : 0 ≤ r) (hr2 : r ≤ 131072) (hh : 0 ≤ hi) (hh2 : hi < 16) (hl : 0 ≤ lo) (hl2 : lo < 512) (hn : 0 < n) (hn2 : n ≤ 512) (c0 : 40960 ≤ a) (c1 : a ≤ 49151) (c2 : 1 ≤ r) (c3 : 3 < hi) : Calls Try.prog 16 #[.agg #[.int .i64 3, .int .i64 n, .int .i64 r, .bool true, .bool mo, .int .i64 lo, .int .i64 hi, .int .u8 la], .int .u16 a] w fun e w' => e = .returned (.tuple #[.int .i64 (0), .bool false]) ∧ Below w.heap.size w w' := by
  go_enter Try.func16, Try.ntmps16
  go_wp2
  all_goals (go_ret2; exact ⟨rfl, by first | exact Below.refl _ _ | exact own1 _ _ | exact own2 _ _ _ | exact own3 _ _ _ _ | exact own4 _ _ _ _ _⟩)
set_option maxHeartbeats 1000000 in
theorem at16_9 (n r lo hi la a : Int) (on mo : Bool) (w : World) (ha : 0 ≤ a) (ha2 : a < 65536) (hr : 0 ≤ r) (hr2 : r ≤ 131072) (hh : 0 ≤ hi) (hh2 : hi < 16) (hl : 0 ≤ lo) (hl2 : lo < 512) (hn : 0 < n) (hn2 : n ≤ 512) (c0 : 40960 ≤ a) (c1 : a ≤ 49151) (c2 : 1 ≤ r) (c3 : hi ≤ 3) : Calls Try.prog 16 #[.agg #[.int .i64 3, .int .i64 n, .int .i64 r, .bool true, .bool mo, .int .i64 lo, .int .i64 hi, .int .u8 la], .int .u16 a] w fun e w' => e = .returned (.tuple #[.int .i64 ((8192 * hi + a % 8192) % r), .bool true]) ∧ Below w.heap.size w w' := by
  have q3 : ¬ r = 0 := by omega
  go_enter Try.func16, Try.ntmps16
  go_wp2
  all_goals (go_ret2; exact ⟨rfl, by first | exact Below.refl _ _ | exact own1 _ _ | exact own2 _ _ _ | exact own3 _ _ _ _ | exact own4 _ _ _ _ _⟩)
set_option maxHeartbeats 1000000 in
theorem at16_10 (n r lo hi la a : Int) (on mo : Bool) (w : World) (ha : 0 ≤ a) (ha2 : a < 65536) (hr : 0 ≤ r) (hr2 : r ≤ 131072) (hh : 0 ≤ hi) (hh2 : hi < 16) (hl : 0 ≤ lo) (hl2 : lo < 512) (hn : 0 < n) (hn2 : n ≤ 512) (c0 : 40960 ≤ a) (c1 : a ≤ 49151) (c2 : 1 ≤ r) : Calls Try.prog 16 #[.agg #[.int .i64 5, .int .i64 n, .int .i64 r, .bool true, .bool mo, .int .i64 lo, .int .i64 hi, .int .u8 la], .int .u16 a] w fun e w' => e = .returned (.tuple #[.int .i64 ((8192 * hi + a % 8192) % r), .bool true]) ∧ Below w.heap.size w w' := by
  have q3 : ¬ r = 0 := by omega
  go_enter Try.func16, Try.ntmps16
  go_wp2
  all_goals (go_ret2; exact ⟨rfl, by first | exact Below.refl _ _ | exact own1 _ _ | exact own2 _ _ _ | exact own3 _ _ _ _ | exact own4 _ _ _ _ _⟩)
set_option maxHeartbeats 1000000 in
theorem at16_11 (n r lo hi la a : Int) (on mo : Bool) (w : World) (ha : 0 ≤ a) (ha2 : a < 65536) (hr : 0 ≤ r) (hr2 : r ≤ 131072) (hh : 0 ≤ hi) (hh2 : hi < 16) (hl : 0 ≤ lo) (hl2 : lo < 512) (hn : 0 < n) (hn2 : n ≤ 512) (c0 : 40960 ≤ a) (c1 : a ≤ 49151) (c2 : 1 ≤ r) : Calls Try.prog 16 #[.agg #[.int .i64 4, .int .i64 n, .int .i64 r, .bool true, .bool mo, .int .i64 lo, .int .i64 hi, .int .u8 la], .int .u16 a] w fun e w' => e = .returned (.tuple #[.int .i64 (0), .bool false]) ∧ Below w.heap.size w w' := by
  go_enter Try.func16, Try.ntmps16
  go_wp2
  all_goals (go_ret2; exact ⟨rfl, by first | exact Below.refl _ _ | exact own1 _ _ | exact own2 _ _ _ | exact own3 _ _ _ _ | exact own4 _ _ _ _ _⟩)
end Go.Proofs.Ytafmmffgenolaaa
