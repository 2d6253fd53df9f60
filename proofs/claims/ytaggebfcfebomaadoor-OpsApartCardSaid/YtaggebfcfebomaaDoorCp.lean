/-
  What ops.copied returns, kind by kind: for every world in which the table of package math/bits is as its text lays it, and every order.
-/
import Derived.Test.YtaggebfcfebomaaDoorCond
namespace Go.Proofs.YtaggebfcfebomaaDoor
open Go.ChangeShapes Go.WideShapes Go.ChangeAt Go.RowKit
set_option linter.unusedVariables false
set_option maxRecDepth 100000 in
set_option maxHeartbeats 2000000 in
theorem cp_32 (x y s : Int) (n : Nat) (hn : n < 65536) (w : World) (hz : Tz w) : Calls Tryd.prog 50 #[.agg #[.int .i64 32, .int .i64 x, .int .i64 y, .int .i64 s, .int .u16 (n : Nat)]] w (RetL w [[97], pickL x thruN]) := by
  have HZ := Lib.hid (Tz.below hz (own1 w (.cells #[.int .i64 32, .int .i64 x, .int .i64 y, .int .i64 s, .int .u16 (n : Nat)] 27)))
  clear hz
  go_enter Tryd.func50, Tryd.ntmps50
  go_wp2_with (first | (go_at_call 44; ((with_reducible refine (place_c _ _).mono ?_); rintro e w1 ⟨rfl, hb⟩; have HB := Lib.hid hb; clear hb)) | (go_at_call 46; ((with_reducible refine (pair_c _ _).mono ?_); rintro e w1 ⟨rfl, hb⟩; have HB := Lib.hid hb; clear hb)) | (go_at_call 61; ((with_reducible refine (thru_c _ _).mono ?_); rintro e w1 ⟨rfl, hb⟩; have HB := Lib.hid hb; clear hb)) | (go_at_call 45; ((with_reducible refine (low_c n hn _ HZ.out).mono ?_); rintro e w1 ⟨rfl, hb⟩; have HB := Lib.hid hb; clear hb)) | (go_at_call 47; ((with_reducible refine (word_c n hn _ HZ.out).mono ?_); rintro e w1 ⟨rfl, hb⟩; have HB := Lib.hid hb; clear hb)) | (go_at_call 62; ((with_reducible refine (at_c _ (by first | (rw [hexs_len]; omega) | simp) _).mono ?_); rintro e w2 ⟨rfl, rfl⟩)) | (go_at_call 43; ((with_reducible refine (list_c _ _).mono ?_); rintro e w2 ⟨rfl, rfl⟩)))
  go_ret
  exact ⟨_, rfl, Or.inr ⟨w1.heap.size, 2, rfl, Nat.le_refl _, by simp, Texts.new w1 [[97], pickL x thruN] _ rfl 9⟩, via (via (own1 _ _) HB.out) (own1 _ _)⟩
set_option maxRecDepth 100000 in
set_option maxHeartbeats 2000000 in
theorem cp_33 (x y s : Int) (n : Nat) (hn : n < 65536) (w : World) (hz : Tz w) : Calls Tryd.prog 50 #[.agg #[.int .i64 33, .int .i64 x, .int .i64 y, .int .i64 s, .int .u16 (n : Nat)]] w (RetL w [pickL x thruN, [97]]) := by
  have HZ := Lib.hid (Tz.below hz (own1 w (.cells #[.int .i64 33, .int .i64 x, .int .i64 y, .int .i64 s, .int .u16 (n : Nat)] 27)))
  clear hz
  go_enter Tryd.func50, Tryd.ntmps50
  go_wp2_with (first | (go_at_call 44; ((with_reducible refine (place_c _ _).mono ?_); rintro e w1 ⟨rfl, hb⟩; have HB := Lib.hid hb; clear hb)) | (go_at_call 46; ((with_reducible refine (pair_c _ _).mono ?_); rintro e w1 ⟨rfl, hb⟩; have HB := Lib.hid hb; clear hb)) | (go_at_call 61; ((with_reducible refine (thru_c _ _).mono ?_); rintro e w1 ⟨rfl, hb⟩; have HB := Lib.hid hb; clear hb)) | (go_at_call 45; ((with_reducible refine (low_c n hn _ HZ.out).mono ?_); rintro e w1 ⟨rfl, hb⟩; have HB := Lib.hid hb; clear hb)) | (go_at_call 47; ((with_reducible refine (word_c n hn _ HZ.out).mono ?_); rintro e w1 ⟨rfl, hb⟩; have HB := Lib.hid hb; clear hb)) | (go_at_call 62; ((with_reducible refine (at_c _ (by first | (rw [hexs_len]; omega) | simp) _).mono ?_); rintro e w2 ⟨rfl, rfl⟩)) | (go_at_call 43; ((with_reducible refine (list_c _ _).mono ?_); rintro e w2 ⟨rfl, rfl⟩)))
  go_ret
  exact ⟨_, rfl, Or.inr ⟨w1.heap.size, 2, rfl, Nat.le_refl _, by simp, Texts.new w1 [pickL x thruN, [97]] _ rfl 9⟩, via (via (own1 _ _) HB.out) (own1 _ _)⟩
set_option maxRecDepth 100000 in
set_option maxHeartbeats 2000000 in
theorem cp_34 (x y s : Int) (n : Nat) (hn : n < 65536) (w : World) (hz : Tz w) : Calls Tryd.prog 50 #[.agg #[.int .i64 34, .int .i64 x, .int .i64 y, .int .i64 s, .int .u16 (n : Nat)]] w (RetL w [[97], 40 :: (hexs n 2 ++ [41])]) := by
  have HZ := Lib.hid (Tz.below hz (own1 w (.cells #[.int .i64 34, .int .i64 x, .int .i64 y, .int .i64 s, .int .u16 (n : Nat)] 27)))
  clear hz
  go_enter Tryd.func50, Tryd.ntmps50
  go_wp2_with (first | (go_at_call 44; ((with_reducible refine (place_c _ _).mono ?_); rintro e w1 ⟨rfl, hb⟩; have HB := Lib.hid hb; clear hb)) | (go_at_call 46; ((with_reducible refine (pair_c _ _).mono ?_); rintro e w1 ⟨rfl, hb⟩; have HB := Lib.hid hb; clear hb)) | (go_at_call 61; ((with_reducible refine (thru_c _ _).mono ?_); rintro e w1 ⟨rfl, hb⟩; have HB := Lib.hid hb; clear hb)) | (go_at_call 45; ((with_reducible refine (low_c n hn _ HZ.out).mono ?_); rintro e w1 ⟨rfl, hb⟩; have HB := Lib.hid hb; clear hb)) | (go_at_call 47; ((with_reducible refine (word_c n hn _ HZ.out).mono ?_); rintro e w1 ⟨rfl, hb⟩; have HB := Lib.hid hb; clear hb)) | (go_at_call 62; ((with_reducible refine (at_c _ (by first | (rw [hexs_len]; omega) | simp) _).mono ?_); rintro e w2 ⟨rfl, rfl⟩)) | (go_at_call 43; ((with_reducible refine (list_c _ _).mono ?_); rintro e w2 ⟨rfl, rfl⟩)))
  go_ret
  exact ⟨_, rfl, Or.inr ⟨w1.heap.size, 2, rfl, Nat.le_refl _, by simp, Texts.new w1 [[97], 40 :: (hexs n 2 ++ [41])] _ rfl 9⟩, via (via (own1 _ _) HB.out) (own1 _ _)⟩
set_option maxRecDepth 100000 in
set_option maxHeartbeats 2000000 in
theorem cp_35 (x y s : Int) (n : Nat) (hn : n < 65536) (w : World) (hz : Tz w) : Calls Tryd.prog 50 #[.agg #[.int .i64 35, .int .i64 x, .int .i64 y, .int .i64 s, .int .u16 (n : Nat)]] w (RetL w [40 :: (hexs n 2 ++ [41]), [97]]) := by
  have HZ := Lib.hid (Tz.below hz (own1 w (.cells #[.int .i64 35, .int .i64 x, .int .i64 y, .int .i64 s, .int .u16 (n : Nat)] 27)))
  clear hz
  go_enter Tryd.func50, Tryd.ntmps50
  go_wp2_with (first | (go_at_call 44; ((with_reducible refine (place_c _ _).mono ?_); rintro e w1 ⟨rfl, hb⟩; have HB := Lib.hid hb; clear hb)) | (go_at_call 46; ((with_reducible refine (pair_c _ _).mono ?_); rintro e w1 ⟨rfl, hb⟩; have HB := Lib.hid hb; clear hb)) | (go_at_call 61; ((with_reducible refine (thru_c _ _).mono ?_); rintro e w1 ⟨rfl, hb⟩; have HB := Lib.hid hb; clear hb)) | (go_at_call 45; ((with_reducible refine (low_c n hn _ HZ.out).mono ?_); rintro e w1 ⟨rfl, hb⟩; have HB := Lib.hid hb; clear hb)) | (go_at_call 47; ((with_reducible refine (word_c n hn _ HZ.out).mono ?_); rintro e w1 ⟨rfl, hb⟩; have HB := Lib.hid hb; clear hb)) | (go_at_call 62; ((with_reducible refine (at_c _ (by first | (rw [hexs_len]; omega) | simp) _).mono ?_); rintro e w2 ⟨rfl, rfl⟩)) | (go_at_call 43; ((with_reducible refine (list_c _ _).mono ?_); rintro e w2 ⟨rfl, rfl⟩)))
  go_ret
  exact ⟨_, rfl, Or.inr ⟨w1.heap.size, 2, rfl, Nat.le_refl _, by simp, Texts.new w1 [40 :: (hexs n 2 ++ [41]), [97]] _ rfl 9⟩, via (via (own1 _ _) HB.out) (own1 _ _)⟩
set_option maxRecDepth 100000 in
set_option maxHeartbeats 2000000 in
theorem cp_36 (x y s : Int) (n : Nat) (hn : n < 65536) (w : World) (hz : Tz w) : Calls Tryd.prog 50 #[.agg #[.int .i64 36, .int .i64 x, .int .i64 y, .int .i64 s, .int .u16 (n : Nat)]] w (RetL w [[97], [40, 99, 41]]) := by
  have HZ := Lib.hid (Tz.below hz (own1 w (.cells #[.int .i64 36, .int .i64 x, .int .i64 y, .int .i64 s, .int .u16 (n : Nat)] 27)))
  clear hz
  go_enter Tryd.func50, Tryd.ntmps50
  go_wp2_with (first | (go_at_call 44; ((with_reducible refine (place_c _ _).mono ?_); rintro e w1 ⟨rfl, hb⟩; have HB := Lib.hid hb; clear hb)) | (go_at_call 46; ((with_reducible refine (pair_c _ _).mono ?_); rintro e w1 ⟨rfl, hb⟩; have HB := Lib.hid hb; clear hb)) | (go_at_call 61; ((with_reducible refine (thru_c _ _).mono ?_); rintro e w1 ⟨rfl, hb⟩; have HB := Lib.hid hb; clear hb)) | (go_at_call 45; ((with_reducible refine (low_c n hn _ HZ.out).mono ?_); rintro e w1 ⟨rfl, hb⟩; have HB := Lib.hid hb; clear hb)) | (go_at_call 47; ((with_reducible refine (word_c n hn _ HZ.out).mono ?_); rintro e w1 ⟨rfl, hb⟩; have HB := Lib.hid hb; clear hb)) | (go_at_call 62; ((with_reducible refine (at_c _ (by first | (rw [hexs_len]; omega) | simp) _).mono ?_); rintro e w2 ⟨rfl, rfl⟩)) | (go_at_call 43; ((with_reducible refine (list_c _ _).mono ?_); rintro e w2 ⟨rfl, rfl⟩)))
  go_ret
  exact ⟨_, rfl, Or.inr ⟨(w.heap.size + 1), 2, rfl, Nat.le_refl _, by simp, Texts.newB (w.alloc (.cells #[.int .i64 36, .int .i64 x, .int .i64 y, .int .i64 s, .int .u16 (n : Nat)] 27)) [[97], [40, 99, 41]] _ rfl 9 _ (by simp)⟩, own2 _ _ _⟩
set_option maxRecDepth 100000 in
set_option maxHeartbeats 2000000 in
theorem cp_37 (x y s : Int) (n : Nat) (hn : n < 65536) (w : World) (hz : Tz w) : Calls Tryd.prog 50 #[.agg #[.int .i64 37, .int .i64 x, .int .i64 y, .int .i64 s, .int .u16 (n : Nat)]] w (RetL w [[40, 99, 41], [97]]) := by
  have HZ := Lib.hid (Tz.below hz (own1 w (.cells #[.int .i64 37, .int .i64 x, .int .i64 y, .int .i64 s, .int .u16 (n : Nat)] 27)))
  clear hz
  go_enter Tryd.func50, Tryd.ntmps50
  go_wp2_with (first | (go_at_call 44; ((with_reducible refine (place_c _ _).mono ?_); rintro e w1 ⟨rfl, hb⟩; have HB := Lib.hid hb; clear hb)) | (go_at_call 46; ((with_reducible refine (pair_c _ _).mono ?_); rintro e w1 ⟨rfl, hb⟩; have HB := Lib.hid hb; clear hb)) | (go_at_call 61; ((with_reducible refine (thru_c _ _).mono ?_); rintro e w1 ⟨rfl, hb⟩; have HB := Lib.hid hb; clear hb)) | (go_at_call 45; ((with_reducible refine (low_c n hn _ HZ.out).mono ?_); rintro e w1 ⟨rfl, hb⟩; have HB := Lib.hid hb; clear hb)) | (go_at_call 47; ((with_reducible refine (word_c n hn _ HZ.out).mono ?_); rintro e w1 ⟨rfl, hb⟩; have HB := Lib.hid hb; clear hb)) | (go_at_call 62; ((with_reducible refine (at_c _ (by first | (rw [hexs_len]; omega) | simp) _).mono ?_); rintro e w2 ⟨rfl, rfl⟩)) | (go_at_call 43; ((with_reducible refine (list_c _ _).mono ?_); rintro e w2 ⟨rfl, rfl⟩)))
  go_ret
  exact ⟨_, rfl, Or.inr ⟨(w.heap.size + 1), 2, rfl, Nat.le_refl _, by simp, Texts.newB (w.alloc (.cells #[.int .i64 37, .int .i64 x, .int .i64 y, .int .i64 s, .int .u16 (n : Nat)] 27)) [[40, 99, 41], [97]] _ rfl 9 _ (by simp)⟩, own2 _ _ _⟩
set_option maxRecDepth 100000 in
set_option maxHeartbeats 2000000 in
theorem cp_38 (x y s : Int) (n : Nat) (hn : n < 65536) (w : World) (hz : Tz w) : Calls Tryd.prog 50 #[.agg #[.int .i64 38, .int .i64 x, .int .i64 y, .int .i64 s, .int .u16 (n : Nat)]] w (RetL w [[97], 40 :: (hexs n 4 ++ [41])]) := by
  have HZ := Lib.hid (Tz.below hz (own1 w (.cells #[.int .i64 38, .int .i64 x, .int .i64 y, .int .i64 s, .int .u16 (n : Nat)] 27)))
  clear hz
  go_enter Tryd.func50, Tryd.ntmps50
  go_wp2_with (first | (go_at_call 44; ((with_reducible refine (place_c _ _).mono ?_); rintro e w1 ⟨rfl, hb⟩; have HB := Lib.hid hb; clear hb)) | (go_at_call 46; ((with_reducible refine (pair_c _ _).mono ?_); rintro e w1 ⟨rfl, hb⟩; have HB := Lib.hid hb; clear hb)) | (go_at_call 61; ((with_reducible refine (thru_c _ _).mono ?_); rintro e w1 ⟨rfl, hb⟩; have HB := Lib.hid hb; clear hb)) | (go_at_call 45; ((with_reducible refine (low_c n hn _ HZ.out).mono ?_); rintro e w1 ⟨rfl, hb⟩; have HB := Lib.hid hb; clear hb)) | (go_at_call 47; ((with_reducible refine (word_c n hn _ HZ.out).mono ?_); rintro e w1 ⟨rfl, hb⟩; have HB := Lib.hid hb; clear hb)) | (go_at_call 62; ((with_reducible refine (at_c _ (by first | (rw [hexs_len]; omega) | simp) _).mono ?_); rintro e w2 ⟨rfl, rfl⟩)) | (go_at_call 43; ((with_reducible refine (list_c _ _).mono ?_); rintro e w2 ⟨rfl, rfl⟩)))
  go_ret
  exact ⟨_, rfl, Or.inr ⟨w1.heap.size, 2, rfl, Nat.le_refl _, by simp, Texts.new w1 [[97], 40 :: (hexs n 4 ++ [41])] _ rfl 9⟩, via (via (own1 _ _) HB.out) (own1 _ _)⟩
set_option maxRecDepth 100000 in
set_option maxHeartbeats 2000000 in
theorem cp_39 (x y s : Int) (n : Nat) (hn : n < 65536) (w : World) (hz : Tz w) : Calls Tryd.prog 50 #[.agg #[.int .i64 39, .int .i64 x, .int .i64 y, .int .i64 s, .int .u16 (n : Nat)]] w (RetL w [40 :: (hexs n 4 ++ [41]), [97]]) := by
  have HZ := Lib.hid (Tz.below hz (own1 w (.cells #[.int .i64 39, .int .i64 x, .int .i64 y, .int .i64 s, .int .u16 (n : Nat)] 27)))
  clear hz
  go_enter Tryd.func50, Tryd.ntmps50
  go_wp2_with (first | (go_at_call 44; ((with_reducible refine (place_c _ _).mono ?_); rintro e w1 ⟨rfl, hb⟩; have HB := Lib.hid hb; clear hb)) | (go_at_call 46; ((with_reducible refine (pair_c _ _).mono ?_); rintro e w1 ⟨rfl, hb⟩; have HB := Lib.hid hb; clear hb)) | (go_at_call 61; ((with_reducible refine (thru_c _ _).mono ?_); rintro e w1 ⟨rfl, hb⟩; have HB := Lib.hid hb; clear hb)) | (go_at_call 45; ((with_reducible refine (low_c n hn _ HZ.out).mono ?_); rintro e w1 ⟨rfl, hb⟩; have HB := Lib.hid hb; clear hb)) | (go_at_call 47; ((with_reducible refine (word_c n hn _ HZ.out).mono ?_); rintro e w1 ⟨rfl, hb⟩; have HB := Lib.hid hb; clear hb)) | (go_at_call 62; ((with_reducible refine (at_c _ (by first | (rw [hexs_len]; omega) | simp) _).mono ?_); rintro e w2 ⟨rfl, rfl⟩)) | (go_at_call 43; ((with_reducible refine (list_c _ _).mono ?_); rintro e w2 ⟨rfl, rfl⟩)))
  go_ret
  exact ⟨_, rfl, Or.inr ⟨w1.heap.size, 2, rfl, Nat.le_refl _, by simp, Texts.new w1 [40 :: (hexs n 4 ++ [41]), [97]] _ rfl 9⟩, via (via (own1 _ _) HB.out) (own1 _ _)⟩
set_option maxRecDepth 100000 in
set_option maxHeartbeats 2000000 in
theorem cp_40 (x y s : Int) (n : Nat) (hn : n < 65536) (w : World) (hz : Tz w) : Calls Tryd.prog 50 #[.agg #[.int .i64 40, .int .i64 x, .int .i64 y, .int .i64 s, .int .u16 (n : Nat)]] w (RetL w [40 :: (hexs n 4 ++ [41]), [115, 112]]) := by
  have HZ := Lib.hid (Tz.below hz (own1 w (.cells #[.int .i64 40, .int .i64 x, .int .i64 y, .int .i64 s, .int .u16 (n : Nat)] 27)))
  clear hz
  go_enter Tryd.func50, Tryd.ntmps50
  go_wp2_with (first | (go_at_call 44; ((with_reducible refine (place_c _ _).mono ?_); rintro e w1 ⟨rfl, hb⟩; have HB := Lib.hid hb; clear hb)) | (go_at_call 46; ((with_reducible refine (pair_c _ _).mono ?_); rintro e w1 ⟨rfl, hb⟩; have HB := Lib.hid hb; clear hb)) | (go_at_call 61; ((with_reducible refine (thru_c _ _).mono ?_); rintro e w1 ⟨rfl, hb⟩; have HB := Lib.hid hb; clear hb)) | (go_at_call 45; ((with_reducible refine (low_c n hn _ HZ.out).mono ?_); rintro e w1 ⟨rfl, hb⟩; have HB := Lib.hid hb; clear hb)) | (go_at_call 47; ((with_reducible refine (word_c n hn _ HZ.out).mono ?_); rintro e w1 ⟨rfl, hb⟩; have HB := Lib.hid hb; clear hb)) | (go_at_call 62; ((with_reducible refine (at_c _ (by first | (rw [hexs_len]; omega) | simp) _).mono ?_); rintro e w2 ⟨rfl, rfl⟩)) | (go_at_call 43; ((with_reducible refine (list_c _ _).mono ?_); rintro e w2 ⟨rfl, rfl⟩)))
  go_ret
  exact ⟨_, rfl, Or.inr ⟨w1.heap.size, 2, rfl, Nat.le_refl _, by simp, Texts.new w1 [40 :: (hexs n 4 ++ [41]), [115, 112]] _ rfl 9⟩, via (via (own1 _ _) HB.out) (own1 _ _)⟩
set_option maxRecDepth 100000 in
set_option maxHeartbeats 2000000 in
theorem cp_41 (x y s : Int) (n : Nat) (hn : n < 65536) (w : World) (hz : Tz w) : Calls Tryd.prog 50 #[.agg #[.int .i64 41, .int .i64 x, .int .i64 y, .int .i64 s, .int .u16 (n : Nat)]] w (RetL w [[115, 112], hexs n 2]) := by
  have HZ := Lib.hid (Tz.below hz (own1 w (.cells #[.int .i64 41, .int .i64 x, .int .i64 y, .int .i64 s, .int .u16 (n : Nat)] 27)))
  clear hz
  go_enter Tryd.func50, Tryd.ntmps50
  go_wp2_with (first | (go_at_call 44; ((with_reducible refine (place_c _ _).mono ?_); rintro e w1 ⟨rfl, hb⟩; have HB := Lib.hid hb; clear hb)) | (go_at_call 46; ((with_reducible refine (pair_c _ _).mono ?_); rintro e w1 ⟨rfl, hb⟩; have HB := Lib.hid hb; clear hb)) | (go_at_call 61; ((with_reducible refine (thru_c _ _).mono ?_); rintro e w1 ⟨rfl, hb⟩; have HB := Lib.hid hb; clear hb)) | (go_at_call 45; ((with_reducible refine (low_c n hn _ HZ.out).mono ?_); rintro e w1 ⟨rfl, hb⟩; have HB := Lib.hid hb; clear hb)) | (go_at_call 47; ((with_reducible refine (word_c n hn _ HZ.out).mono ?_); rintro e w1 ⟨rfl, hb⟩; have HB := Lib.hid hb; clear hb)) | (go_at_call 62; ((with_reducible refine (at_c _ (by first | (rw [hexs_len]; omega) | simp) _).mono ?_); rintro e w2 ⟨rfl, rfl⟩)) | (go_at_call 43; ((with_reducible refine (list_c _ _).mono ?_); rintro e w2 ⟨rfl, rfl⟩)))
  go_ret
  exact ⟨_, rfl, Or.inr ⟨w1.heap.size, 2, rfl, Nat.le_refl _, by simp, Texts.new w1 [[115, 112], hexs n 2] _ rfl 9⟩, via (via (own1 _ _) HB.out) (own1 _ _)⟩
set_option maxRecDepth 100000 in
set_option maxHeartbeats 2000000 in
theorem cp_42 (x y s : Int) (n : Nat) (hn : n < 65536) (w : World) (hz : Tz w) : Calls Tryd.prog 50 #[.agg #[.int .i64 42, .int .i64 x, .int .i64 y, .int .i64 s, .int .u16 (n : Nat)]] w (RetL w [[104, 108], 115 :: 112 :: 43 :: hexs n 2]) := by
  have HZ := Lib.hid (Tz.below hz (own1 w (.cells #[.int .i64 42, .int .i64 x, .int .i64 y, .int .i64 s, .int .u16 (n : Nat)] 27)))
  clear hz
  have q1 : ¬ 9223372036854775807 < 3 + (hexs n 2).length := by rw [hexs_len]; omega
  go_enter Tryd.func50, Tryd.ntmps50
  go_wp2_with (first | (go_at_call 44; ((with_reducible refine (place_c _ _).mono ?_); rintro e w1 ⟨rfl, hb⟩; have HB := Lib.hid hb; clear hb)) | (go_at_call 46; ((with_reducible refine (pair_c _ _).mono ?_); rintro e w1 ⟨rfl, hb⟩; have HB := Lib.hid hb; clear hb)) | (go_at_call 61; ((with_reducible refine (thru_c _ _).mono ?_); rintro e w1 ⟨rfl, hb⟩; have HB := Lib.hid hb; clear hb)) | (go_at_call 45; ((with_reducible refine (low_c n hn _ HZ.out).mono ?_); rintro e w1 ⟨rfl, hb⟩; have HB := Lib.hid hb; clear hb)) | (go_at_call 47; ((with_reducible refine (word_c n hn _ HZ.out).mono ?_); rintro e w1 ⟨rfl, hb⟩; have HB := Lib.hid hb; clear hb)) | (go_at_call 62; ((with_reducible refine (at_c _ (by first | (rw [hexs_len]; omega) | simp) _).mono ?_); rintro e w2 ⟨rfl, rfl⟩)) | (go_at_call 43; ((with_reducible refine (list_c _ _).mono ?_); rintro e w2 ⟨rfl, rfl⟩)))
  go_ret
  exact ⟨_, rfl, Or.inr ⟨w1.heap.size, 2, rfl, Nat.le_refl _, by simp, Texts.new w1 [[104, 108], 115 :: 112 :: 43 :: hexs n 2] _ (by rw [cat]; rfl) 9⟩, via (via (own1 _ _) HB.out) (own1 _ _)⟩
set_option maxRecDepth 100000 in
set_option maxHeartbeats 2000000 in
theorem cp_43 (x y s : Int) (n : Nat) (hn : n < 65536) (w : World) (hz : Tz w) : Calls Tryd.prog 50 #[.agg #[.int .i64 43, .int .i64 x, .int .i64 y, .int .i64 s, .int .u16 (n : Nat)]] w (RetL w [[115, 112], [104, 108]]) := by
  have HZ := Lib.hid (Tz.below hz (own1 w (.cells #[.int .i64 43, .int .i64 x, .int .i64 y, .int .i64 s, .int .u16 (n : Nat)] 27)))
  clear hz
  go_enter Tryd.func50, Tryd.ntmps50
  go_wp2_with (first | (go_at_call 44; ((with_reducible refine (place_c _ _).mono ?_); rintro e w1 ⟨rfl, hb⟩; have HB := Lib.hid hb; clear hb)) | (go_at_call 46; ((with_reducible refine (pair_c _ _).mono ?_); rintro e w1 ⟨rfl, hb⟩; have HB := Lib.hid hb; clear hb)) | (go_at_call 61; ((with_reducible refine (thru_c _ _).mono ?_); rintro e w1 ⟨rfl, hb⟩; have HB := Lib.hid hb; clear hb)) | (go_at_call 45; ((with_reducible refine (low_c n hn _ HZ.out).mono ?_); rintro e w1 ⟨rfl, hb⟩; have HB := Lib.hid hb; clear hb)) | (go_at_call 47; ((with_reducible refine (word_c n hn _ HZ.out).mono ?_); rintro e w1 ⟨rfl, hb⟩; have HB := Lib.hid hb; clear hb)) | (go_at_call 62; ((with_reducible refine (at_c _ (by first | (rw [hexs_len]; omega) | simp) _).mono ?_); rintro e w2 ⟨rfl, rfl⟩)) | (go_at_call 43; ((with_reducible refine (list_c _ _).mono ?_); rintro e w2 ⟨rfl, rfl⟩)))
  go_ret
  exact ⟨_, rfl, Or.inr ⟨(w.heap.size + 1), 2, rfl, Nat.le_refl _, by simp, Texts.newB (w.alloc (.cells #[.int .i64 43, .int .i64 x, .int .i64 y, .int .i64 s, .int .u16 (n : Nat)] 27)) [[115, 112], [104, 108]] _ rfl 9 _ (by simp)⟩, own2 _ _ _⟩
set_option maxRecDepth 100000 in
set_option maxHeartbeats 2000000 in
theorem cp_1 (x y s : Int) (n : Nat) (w : World) : Calls Tryd.prog 50 #[.agg #[.int .i64 1, .int .i64 x, .int .i64 y, .int .i64 s, .int .u16 (n : Nat)]] w (RetL w []) := by
  go_enter Tryd.func50, Tryd.ntmps50
  go_wp2
  go_ret
  exact ⟨_, rfl, Or.inl ⟨rfl, rfl⟩, own1 _ _⟩
set_option maxRecDepth 100000 in
set_option maxHeartbeats 2000000 in
theorem cp_3 (x y s : Int) (n : Nat) (w : World) : Calls Tryd.prog 50 #[.agg #[.int .i64 3, .int .i64 x, .int .i64 y, .int .i64 s, .int .u16 (n : Nat)]] w (RetL w []) := by
  go_enter Tryd.func50, Tryd.ntmps50
  go_wp2
  go_ret
  exact ⟨_, rfl, Or.inl ⟨rfl, rfl⟩, own1 _ _⟩
set_option maxRecDepth 100000 in
set_option maxHeartbeats 2000000 in
theorem cp_4 (x y s : Int) (n : Nat) (w : World) : Calls Tryd.prog 50 #[.agg #[.int .i64 4, .int .i64 x, .int .i64 y, .int .i64 s, .int .u16 (n : Nat)]] w (RetL w []) := by
  go_enter Tryd.func50, Tryd.ntmps50
  go_wp2
  go_ret
  exact ⟨_, rfl, Or.inl ⟨rfl, rfl⟩, own1 _ _⟩
set_option maxRecDepth 100000 in
set_option maxHeartbeats 2000000 in
theorem cp_5 (x y s : Int) (n : Nat) (w : World) : Calls Tryd.prog 50 #[.agg #[.int .i64 5, .int .i64 x, .int .i64 y, .int .i64 s, .int .u16 (n : Nat)]] w (RetL w []) := by
  go_enter Tryd.func50, Tryd.ntmps50
  go_wp2
  go_ret
  exact ⟨_, rfl, Or.inl ⟨rfl, rfl⟩, own1 _ _⟩
set_option maxRecDepth 100000 in
set_option maxHeartbeats 2000000 in
theorem cp_6 (x y s : Int) (n : Nat) (w : World) : Calls Tryd.prog 50 #[.agg #[.int .i64 6, .int .i64 x, .int .i64 y, .int .i64 s, .int .u16 (n : Nat)]] w (RetL w []) := by
  go_enter Tryd.func50, Tryd.ntmps50
  go_wp2
  go_ret
  exact ⟨_, rfl, Or.inl ⟨rfl, rfl⟩, own1 _ _⟩
set_option maxRecDepth 100000 in
set_option maxHeartbeats 2000000 in
theorem cp_18 (x y s : Int) (n : Nat) (w : World) : Calls Tryd.prog 50 #[.agg #[.int .i64 18, .int .i64 x, .int .i64 y, .int .i64 s, .int .u16 (n : Nat)]] w (RetL w []) := by
  go_enter Tryd.func50, Tryd.ntmps50
  go_wp2
  go_ret
  exact ⟨_, rfl, Or.inl ⟨rfl, rfl⟩, own1 _ _⟩
set_option maxRecDepth 100000 in
set_option maxHeartbeats 2000000 in
theorem cp_19 (x y s : Int) (n : Nat) (w : World) : Calls Tryd.prog 50 #[.agg #[.int .i64 19, .int .i64 x, .int .i64 y, .int .i64 s, .int .u16 (n : Nat)]] w (RetL w []) := by
  go_enter Tryd.func50, Tryd.ntmps50
  go_wp2
  go_ret
  exact ⟨_, rfl, Or.inl ⟨rfl, rfl⟩, own1 _ _⟩
set_option maxRecDepth 100000 in
set_option maxHeartbeats 2000000 in
theorem cp_20 (x y s : Int) (n : Nat) (w : World) : Calls Tryd.prog 50 #[.agg #[.int .i64 20, .int .i64 x, .int .i64 y, .int .i64 s, .int .u16 (n : Nat)]] w (RetL w []) := by
  go_enter Tryd.func50, Tryd.ntmps50
  go_wp2
  go_ret
  exact ⟨_, rfl, Or.inl ⟨rfl, rfl⟩, own1 _ _⟩
set_option maxRecDepth 100000 in
set_option maxHeartbeats 2000000 in
theorem cp_21 (x y s : Int) (n : Nat) (w : World) : Calls Tryd.prog 50 #[.agg #[.int .i64 21, .int .i64 x, .int .i64 y, .int .i64 s, .int .u16 (n : Nat)]] w (RetL w []) := by
  go_enter Tryd.func50, Tryd.ntmps50
  go_wp2
  go_ret
  exact ⟨_, rfl, Or.inl ⟨rfl, rfl⟩, own1 _ _⟩
set_option maxRecDepth 100000 in
set_option maxHeartbeats 2000000 in
theorem cp_22 (x y s : Int) (n : Nat) (w : World) : Calls Tryd.prog 50 #[.agg #[.int .i64 22, .int .i64 x, .int .i64 y, .int .i64 s, .int .u16 (n : Nat)]] w (RetL w []) := by
  go_enter Tryd.func50, Tryd.ntmps50
  go_wp2
  go_ret
  exact ⟨_, rfl, Or.inl ⟨rfl, rfl⟩, own1 _ _⟩
set_option maxRecDepth 100000 in
set_option maxHeartbeats 2000000 in
theorem cp_27 (x y s : Int) (n : Nat) (w : World) : Calls Tryd.prog 50 #[.agg #[.int .i64 27, .int .i64 x, .int .i64 y, .int .i64 s, .int .u16 (n : Nat)]] w (RetL w []) := by
  go_enter Tryd.func50, Tryd.ntmps50
  go_wp2
  go_ret
  exact ⟨_, rfl, Or.inl ⟨rfl, rfl⟩, own1 _ _⟩
set_option maxRecDepth 100000 in
set_option maxHeartbeats 2000000 in
theorem cp_d (k x y s : Int) (n : Nat) (h32 : (k == 32) = false) (h33 : (k == 33) = false) (h34 : (k == 34) = false) (h35 : (k == 35) = false) (h36 : (k == 36) = false) (h37 : (k == 37) = false) (h38 : (k == 38) = false) (h39 : (k == 39) = false) (h40 : (k == 40) = false) (h41 : (k == 41) = false) (h42 : (k == 42) = false) (h43 : (k == 43) = false) (w : World) : Calls Tryd.prog 50 #[.agg #[.int .i64 k, .int .i64 x, .int .i64 y, .int .i64 s, .int .u16 (n : Nat)]] w (RetL w []) := by
  go_enter Tryd.func50, Tryd.ntmps50
  go_wp2
  go_ret
  exact ⟨_, rfl, Or.inl ⟨rfl, rfl⟩, own1 _ _⟩
end Go.Proofs.YtaggebfcfebomaaDoor
