/-
  What a map shows, each way: for every map; no condition but that each number fits.
-/
import Derived.Test.YtafmmffgenolaaaBits
namespace Go.Proofs.Ytafmmffgenolaaa
open Go.ChangeShapes Go.WideShapes Go.ChangeAt Go.RowKit
set_option linter.unusedVariables false
set_option linter.unusedSimpArgs false
set_option maxRecDepth 100000
set_option maxHeartbeats 1000000 in
theorem modulo_c (n s : Int) (w : World) (h0 : 0 ≤ n) (h1 : n < 1000000) (h2 : 0 < s) (h3 : s ≤ 131072) : Calls Try.prog 28 #[.int .i64 n, .int .i64 s] w fun e w' => e = .returned (.int .i64 (n % s)) ∧ w = w' := by
  have q0 := Int.emod_nonneg n (show s ≠ 0 by omega)
  have q1 := Int.emod_lt_of_pos n h2
  have q2 : ¬ n % s < 0 := by omega
  have q3 : ¬ s = 0 := by omega
  go_enter Try.func28, Try.ntmps28
  go_wp2
  go_ret
  exact ⟨rfl, rfl⟩
set_option maxHeartbeats 1000000 in
theorem at15_0 (k n r lo hi la a : Int) (on mo : Bool) (w : World) (ha : 0 ≤ a) (ha2 : a < 65536) (hr : 0 ≤ r) (hr2 : r ≤ 131072) (hh : 0 ≤ hi) (hh2 : hi < 16) (hl : 0 ≤ lo) (hl2 : lo < 512) (hn : 0 < n) (hn2 : n ≤ 512) (c0 : a < 40960) : Calls Try.prog 15 #[.agg #[.int .i64 k, .int .i64 n, .int .i64 r, .bool on, .bool mo, .int .i64 lo, .int .i64 hi, .int .u8 la], .int .u16 a] w fun e w' => e = .returned (.tuple #[.int .i64 (0), .bool false]) ∧ Below w.heap.size w w' := by
  go_enter Try.func15, Try.ntmps15
  go_wp2
  all_goals (go_ret2; exact ⟨rfl, by first | exact Below.refl _ _ | exact own1 _ _ | exact own2 _ _ _ | exact own3 _ _ _ _ | exact own4 _ _ _ _ _⟩)
set_option maxHeartbeats 1000000 in
theorem at15_1 (k n r lo hi la a : Int) (on mo : Bool) (w : World) (ha : 0 ≤ a) (ha2 : a < 65536) (hr : 0 ≤ r) (hr2 : r ≤ 131072) (hh : 0 ≤ hi) (hh2 : hi < 16) (hl : 0 ≤ lo) (hl2 : lo < 512) (hn : 0 < n) (hn2 : n ≤ 512) (c0 : 49151 < a) : Calls Try.prog 15 #[.agg #[.int .i64 k, .int .i64 n, .int .i64 r, .bool on, .bool mo, .int .i64 lo, .int .i64 hi, .int .u8 la], .int .u16 a] w fun e w' => e = .returned (.tuple #[.int .i64 (0), .bool false]) ∧ Below w.heap.size w w' := by
  go_enter Try.func15, Try.ntmps15
  go_wp2
  all_goals (go_ret2; exact ⟨rfl, by first | exact Below.refl _ _ | exact own1 _ _ | exact own2 _ _ _ | exact own3 _ _ _ _ | exact own4 _ _ _ _ _⟩)
set_option maxHeartbeats 1000000 in
theorem at15_2 (k n r lo hi la a : Int) (on mo : Bool) (w : World) (ha : 0 ≤ a) (ha2 : a < 65536) (hr : 0 ≤ r) (hr2 : r ≤ 131072) (hh : 0 ≤ hi) (hh2 : hi < 16) (hl : 0 ≤ lo) (hl2 : lo < 512) (hn : 0 < n) (hn2 : n ≤ 512) (c0 : 40960 ≤ a) (c1 : a ≤ 49151) : Calls Try.prog 15 #[.agg #[.int .i64 k, .int .i64 n, .int .i64 r, .bool false, .bool mo, .int .i64 lo, .int .i64 hi, .int .u8 la], .int .u16 a] w fun e w' => e = .returned (.tuple #[.int .i64 (0), .bool false]) ∧ Below w.heap.size w w' := by
  go_enter Try.func15, Try.ntmps15
  go_wp2
  all_goals (go_ret2; exact ⟨rfl, by first | exact Below.refl _ _ | exact own1 _ _ | exact own2 _ _ _ | exact own3 _ _ _ _ | exact own4 _ _ _ _ _⟩)
set_option maxHeartbeats 1000000 in
theorem at15_3 (k n r lo hi la a : Int) (on mo : Bool) (w : World) (ha : 0 ≤ a) (ha2 : a < 65536) (hr : 0 ≤ r) (hr2 : r ≤ 131072) (hh : 0 ≤ hi) (hh2 : hi < 16) (hl : 0 ≤ lo) (hl2 : lo < 512) (hn : 0 < n) (hn2 : n ≤ 512) (c0 : 40960 ≤ a) (c1 : a ≤ 49151) (c2 : r < 1) : Calls Try.prog 15 #[.agg #[.int .i64 k, .int .i64 n, .int .i64 r, .bool true, .bool mo, .int .i64 lo, .int .i64 hi, .int .u8 la], .int .u16 a] w fun e w' => e = .returned (.tuple #[.int .i64 (0), .bool false]) ∧ Below w.heap.size w w' := by
  go_enter Try.func15, Try.ntmps15
  go_wp2
  all_goals (go_ret2; exact ⟨rfl, by first | exact Below.refl _ _ | exact own1 _ _ | exact own2 _ _ _ | exact own3 _ _ _ _ | exact own4 _ _ _ _ _⟩)
set_option maxHeartbeats 1000000 in
theorem at15_4 (n r lo hi la a : Int) (on mo : Bool) (w : World) (ha : 0 ≤ a) (ha2 : a < 65536) (hr : 0 ≤ r) (hr2 : r ≤ 131072) (hh : 0 ≤ hi) (hh2 : hi < 16) (hl : 0 ≤ lo) (hl2 : lo < 512) (hn : 0 < n) (hn2 : n ≤ 512) (c0 : 40960 ≤ a) (c1 : a ≤ 49151) (c2 : 1 ≤ r) : Calls Try.prog 15 #[.agg #[.int .i64 0, .int .i64 n, .int .i64 r, .bool true, .bool mo, .int .i64 lo, .int .i64 hi, .int .u8 la], .int .u16 a] w fun e w' => e = .returned (.tuple #[.int .i64 (a % 8192 % r), .bool true]) ∧ Below w.heap.size w w' := by
  have MC := Lib.hid (fun z W h0 h1 => modulo_c z r W h0 h1 (by omega) hr2)
  go_enter Try.func15, Try.ntmps15
  go_wp2_with fail
  with_reducible refine (MC.out (a % 8192) _ (by omega) (by omega)).mono ?_
  rintro e w1 ⟨rfl, rfl⟩
  go_wp2
  all_goals (go_ret2; exact ⟨rfl, by first | exact Below.refl _ _ | exact own1 _ _ | exact own2 _ _ _ | exact own3 _ _ _ _ | exact own4 _ _ _ _ _⟩)
set_option maxHeartbeats 1000000 in
theorem at15_5 (n r lo hi la a : Int) (on mo : Bool) (w : World) (ha : 0 ≤ a) (ha2 : a < 65536) (hr : 0 ≤ r) (hr2 : r ≤ 131072) (hh : 0 ≤ hi) (hh2 : hi < 16) (hl : 0 ≤ lo) (hl2 : lo < 512) (hn : 0 < n) (hn2 : n ≤ 512) (c0 : 40960 ≤ a) (c1 : a ≤ 49151) (c2 : 1 ≤ r) : Calls Try.prog 15 #[.agg #[.int .i64 1, .int .i64 n, .int .i64 r, .bool true, .bool true, .int .i64 lo, .int .i64 hi, .int .u8 la], .int .u16 a] w fun e w' => e = .returned (.tuple #[.int .i64 ((8192 * hi + a % 8192) % r), .bool true]) ∧ Below w.heap.size w w' := by
  have MC := Lib.hid (fun z W h0 h1 => modulo_c z r W h0 h1 (by omega) hr2)
  go_enter Try.func15, Try.ntmps15
  go_wp2_with fail
  with_reducible refine (MC.out (a % 8192 + 8192 * hi) _ (by omega) (by omega)).mono ?_
  rintro e w1 ⟨rfl, rfl⟩
  go_wp2
  all_goals (go_ret2; exact ⟨by rw [Int.add_comm]; rfl, by first | exact Below.refl _ _ | exact own1 _ _ | exact own2 _ _ _ | exact own3 _ _ _ _ | exact own4 _ _ _ _ _⟩)
set_option maxHeartbeats 1000000 in
theorem at15_6 (n r lo hi la a : Int) (on mo : Bool) (w : World) (ha : 0 ≤ a) (ha2 : a < 65536) (hr : 0 ≤ r) (hr2 : r ≤ 131072) (hh : 0 ≤ hi) (hh2 : hi < 16) (hl : 0 ≤ lo) (hl2 : lo < 512) (hn : 0 < n) (hn2 : n ≤ 512) (c0 : 40960 ≤ a) (c1 : a ≤ 49151) (c2 : 1 ≤ r) : Calls Try.prog 15 #[.agg #[.int .i64 1, .int .i64 n, .int .i64 r, .bool true, .bool false, .int .i64 lo, .int .i64 hi, .int .u8 la], .int .u16 a] w fun e w' => e = .returned (.tuple #[.int .i64 (a % 8192 % r), .bool true]) ∧ Below w.heap.size w w' := by
  have MC := Lib.hid (fun z W h0 h1 => modulo_c z r W h0 h1 (by omega) hr2)
  go_enter Try.func15, Try.ntmps15
  go_wp2_with fail
  with_reducible refine (MC.out (a % 8192) _ (by omega) (by omega)).mono ?_
  rintro e w1 ⟨rfl, rfl⟩
  go_wp2
  all_goals (go_ret2; exact ⟨rfl, by first | exact Below.refl _ _ | exact own1 _ _ | exact own2 _ _ _ | exact own3 _ _ _ _ | exact own4 _ _ _ _ _⟩)
set_option maxHeartbeats 1000000 in
theorem at15_7 (n r lo hi la a : Int) (on mo : Bool) (w : World) (ha : 0 ≤ a) (ha2 : a < 65536) (hr : 0 ≤ r) (hr2 : r ≤ 131072) (hh : 0 ≤ hi) (hh2 : hi < 16) (hl : 0 ≤ lo) (hl2 : lo < 512) (hn : 0 < n) (hn2 : n ≤ 512) (c0 : 40960 ≤ a) (c1 : a ≤ 49151) (c2 : 1 ≤ r) : Calls Try.prog 15 #[.agg #[.int .i64 2, .int .i64 n, .int .i64 r, .bool true, .bool mo, .int .i64 lo, .int .i64 hi, .int .u8 la], .int .u16 a] w fun e w' => e = .returned (.tuple #[.int .i64 (a % 512 % r), .bool true]) ∧ Below w.heap.size w w' := by
  have MC := Lib.hid (fun z W h0 h1 => modulo_c z r W h0 h1 (by omega) hr2)
  go_enter Try.func15, Try.ntmps15
  go_wp2_with fail
  with_reducible refine (MC.out (a % 512) _ (by omega) (by omega)).mono ?_
  rintro e w1 ⟨rfl, rfl⟩
  go_wp2
  all_goals (go_ret2; exact ⟨rfl, by first | exact Below.refl _ _ | exact own1 _ _ | exact own2 _ _ _ | exact own3 _ _ _ _ | exact own4 _ _ _ _ _⟩)
set_option maxHeartbeats 1000000 in
theorem at15_8 (n r lo hi la a : Int) (on mo : Bool) (w : World) (ha : 0 ≤ a) (ha2 : a < 65536) (hr : 0 ≤ r) (hr2 : r ≤ 131072) (hh : 0 ≤ hi) (hh2 : hi < 16) (hl : 0 ≤ lo) (hl2 : lo < 512) (hn : 0 < n) (hn2 : n ≤ 512) (c0 : 40960 ≤ a) (c1 : a ≤ 49151) (c2 : 1 ≤ r) (c3 : 3 < hi) : Calls Try.prog 15 #[.agg #[.int .i64 3, .int .i64 n, .int .i64 r, .bool true, .bool mo, .int .i64 lo, .int .i64 hi, .int .u8 la], .int .u16 a] w fun e w' => e = .returned (.tuple #[.int .i64 (0), .bool false]) ∧ Below w.heap.size w w' := by
  go_enter Try.func15, Try.ntmps15
  go_wp2
  all_goals (go_ret2; exact ⟨rfl, by first | exact Below.refl _ _ | exact own1 _ _ | exact own2 _ _ _ | exact own3 _ _ _ _ | exact own4 _ _ _ _ _⟩)
set_option maxHeartbeats 1000000 in
theorem at15_9 (n r lo hi la a : Int) (on mo : Bool) (w : World) (ha : 0 ≤ a) (ha2 : a < 65536) (hr : 0 ≤ r) (hr2 : r ≤ 131072) (hh : 0 ≤ hi) (hh2 : hi < 16) (hl : 0 ≤ lo) (hl2 : lo < 512) (hn : 0 < n) (hn2 : n ≤ 512) (c0 : 40960 ≤ a) (c1 : a ≤ 49151) (c2 : 1 ≤ r) (c3 : hi ≤ 3) : Calls Try.prog 15 #[.agg #[.int .i64 3, .int .i64 n, .int .i64 r, .bool true, .bool mo, .int .i64 lo, .int .i64 hi, .int .u8 la], .int .u16 a] w fun e w' => e = .returned (.tuple #[.int .i64 ((8192 * hi + a % 8192) % r), .bool true]) ∧ Below w.heap.size w w' := by
  have MC := Lib.hid (fun z W h0 h1 => modulo_c z r W h0 h1 (by omega) hr2)
  go_enter Try.func15, Try.ntmps15
  go_wp2_with fail
  with_reducible refine (MC.out (a % 8192 + 8192 * hi) _ (by omega) (by omega)).mono ?_
  rintro e w1 ⟨rfl, rfl⟩
  go_wp2
  all_goals (go_ret2; exact ⟨by rw [Int.add_comm]; rfl, by first | exact Below.refl _ _ | exact own1 _ _ | exact own2 _ _ _ | exact own3 _ _ _ _ | exact own4 _ _ _ _ _⟩)
set_option maxHeartbeats 1000000 in
theorem at15_10 (n r lo hi la a : Int) (on mo : Bool) (w : World) (ha : 0 ≤ a) (ha2 : a < 65536) (hr : 0 ≤ r) (hr2 : r ≤ 131072) (hh : 0 ≤ hi) (hh2 : hi < 16) (hl : 0 ≤ lo) (hl2 : lo < 512) (hn : 0 < n) (hn2 : n ≤ 512) (c0 : 40960 ≤ a) (c1 : a ≤ 49151) (c2 : 1 ≤ r) : Calls Try.prog 15 #[.agg #[.int .i64 5, .int .i64 n, .int .i64 r, .bool true, .bool mo, .int .i64 lo, .int .i64 hi, .int .u8 la], .int .u16 a] w fun e w' => e = .returned (.tuple #[.int .i64 ((8192 * hi + a % 8192) % r), .bool true]) ∧ Below w.heap.size w w' := by
  have MC := Lib.hid (fun z W h0 h1 => modulo_c z r W h0 h1 (by omega) hr2)
  go_enter Try.func15, Try.ntmps15
  go_wp2_with fail
  with_reducible refine (MC.out (a % 8192 + 8192 * hi) _ (by omega) (by omega)).mono ?_
  rintro e w1 ⟨rfl, rfl⟩
  go_wp2
  all_goals (go_ret2; exact ⟨by rw [Int.add_comm]; rfl, by first | exact Below.refl _ _ | exact own1 _ _ | exact own2 _ _ _ | exact own3 _ _ _ _ | exact own4 _ _ _ _ _⟩)
set_option maxHeartbeats 1000000 in
theorem at15_11 (n r lo hi la a : Int) (on mo : Bool) (w : World) (ha : 0 ≤ a) (ha2 : a < 65536) (hr : 0 ≤ r) (hr2 : r ≤ 131072) (hh : 0 ≤ hi) (hh2 : hi < 16) (hl : 0 ≤ lo) (hl2 : lo < 512) (hn : 0 < n) (hn2 : n ≤ 512) (c0 : 40960 ≤ a) (c1 : a ≤ 49151) (c2 : 1 ≤ r) : Calls Try.prog 15 #[.agg #[.int .i64 4, .int .i64 n, .int .i64 r, .bool true, .bool mo, .int .i64 lo, .int .i64 hi, .int .u8 la], .int .u16 a] w fun e w' => e = .returned (.tuple #[.int .i64 (0), .bool false]) ∧ Below w.heap.size w w' := by
  go_enter Try.func15, Try.ntmps15
  go_wp2
  all_goals (go_ret2; exact ⟨rfl, by first | exact Below.refl _ _ | exact own1 _ _ | exact own2 _ _ _ | exact own3 _ _ _ _ | exact own4 _ _ _ _ _⟩)
end Go.Proofs.Ytafmmffgenolaaa
