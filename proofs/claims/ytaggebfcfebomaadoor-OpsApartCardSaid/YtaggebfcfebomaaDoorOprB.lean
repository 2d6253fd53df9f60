/-
  What ops.operands returns, kind by kind: for every world in which the table of package math/bits is as its text lays it, and every order.
-/
import Derived.Test.YtaggebfcfebomaaDoorCp
namespace Go.Proofs.YtaggebfcfebomaaDoor
open Go.ChangeShapes Go.WideShapes Go.ChangeAt Go.RowKit
set_option linter.unusedVariables false
set_option maxRecDepth 100000 in
set_option maxHeartbeats 2000000 in
theorem opr_2 (x y s : Int) (n : Nat) (hn : n < 65536) (w : World) (hz : Tz w) : Calls Tryd.prog 23 #[.agg #[.int .i64 2, .int .i64 x, .int .i64 y, .int .i64 s, .int .u16 (n : Nat)]] w (RetL w [hexs n 2]) := by
  have HZ := Lib.hid (Tz.below hz (own1 w (.cells #[.int .i64 2, .int .i64 x, .int .i64 y, .int .i64 s, .int .u16 (n : Nat)] 27)))
  clear hz
  go_enter Tryd.func23, Tryd.ntmps23
  go_wp2_with (first | (go_at_call 44; ((with_reducible refine (place_c _ _).mono ?_); rintro e w1 ⟨rfl, hb⟩; have HB := Lib.hid hb; clear hb)) | (go_at_call 46; ((with_reducible refine (pair_c _ _).mono ?_); rintro e w1 ⟨rfl, hb⟩; have HB := Lib.hid hb; clear hb)) | (go_at_call 61; ((with_reducible refine (thru_c _ _).mono ?_); rintro e w1 ⟨rfl, hb⟩; have HB := Lib.hid hb; clear hb)) | (go_at_call 45; ((with_reducible refine (low_c n hn _ HZ.out).mono ?_); rintro e w1 ⟨rfl, hb⟩; have HB := Lib.hid hb; clear hb)) | (go_at_call 47; ((with_reducible refine (word_c n hn _ HZ.out).mono ?_); rintro e w1 ⟨rfl, hb⟩; have HB := Lib.hid hb; clear hb)) | (go_at_call 62; ((with_reducible refine (at_c _ (by first | (rw [hexs_len]; omega) | simp) _).mono ?_); rintro e w2 ⟨rfl, rfl⟩)) | (go_at_call 43; ((with_reducible refine (list_c _ _).mono ?_); rintro e w2 ⟨rfl, rfl⟩)))
  go_ret
  exact ⟨_, rfl, Or.inr ⟨w1.heap.size, 1, rfl, Nat.le_refl _, by simp, Texts.new w1 [hexs n 2] _ rfl 9⟩, via (via (own1 _ _) HB.out) (own1 _ _)⟩
set_option maxRecDepth 100000 in
set_option maxHeartbeats 2000000 in
theorem opr_10 (x y s : Int) (n : Nat) (hn : n < 65536) (w : World) (hz : Tz w) : Calls Tryd.prog 23 #[.agg #[.int .i64 10, .int .i64 x, .int .i64 y, .int .i64 s, .int .u16 (n : Nat)]] w (RetL w [[97], pickL y placeN]) := by
  have HZ := Lib.hid (Tz.below hz (own1 w (.cells #[.int .i64 10, .int .i64 x, .int .i64 y, .int .i64 s, .int .u16 (n : Nat)] 27)))
  clear hz
  go_enter Tryd.func23, Tryd.ntmps23
  go_wp2_with (first | (go_at_call 44; ((with_reducible refine (place_c _ _).mono ?_); rintro e w1 ⟨rfl, hb⟩; have HB := Lib.hid hb; clear hb)) | (go_at_call 46; ((with_reducible refine (pair_c _ _).mono ?_); rintro e w1 ⟨rfl, hb⟩; have HB := Lib.hid hb; clear hb)) | (go_at_call 61; ((with_reducible refine (thru_c _ _).mono ?_); rintro e w1 ⟨rfl, hb⟩; have HB := Lib.hid hb; clear hb)) | (go_at_call 45; ((with_reducible refine (low_c n hn _ HZ.out).mono ?_); rintro e w1 ⟨rfl, hb⟩; have HB := Lib.hid hb; clear hb)) | (go_at_call 47; ((with_reducible refine (word_c n hn _ HZ.out).mono ?_); rintro e w1 ⟨rfl, hb⟩; have HB := Lib.hid hb; clear hb)) | (go_at_call 62; ((with_reducible refine (at_c _ (by first | (rw [hexs_len]; omega) | simp) _).mono ?_); rintro e w2 ⟨rfl, rfl⟩)) | (go_at_call 43; ((with_reducible refine (list_c _ _).mono ?_); rintro e w2 ⟨rfl, rfl⟩)))
  go_ret
  exact ⟨_, rfl, Or.inr ⟨w1.heap.size, 2, rfl, Nat.le_refl _, by simp, Texts.new w1 [[97], pickL y placeN] _ rfl 9⟩, via (via (own1 _ _) HB.out) (own1 _ _)⟩
set_option maxRecDepth 100000 in
set_option maxHeartbeats 2000000 in
theorem opr_11 (x y s : Int) (n : Nat) (hn : n < 65536) (w : World) (hz : Tz w) : Calls Tryd.prog 23 #[.agg #[.int .i64 11, .int .i64 x, .int .i64 y, .int .i64 s, .int .u16 (n : Nat)]] w (RetL w [[97], hexs n 2]) := by
  have HZ := Lib.hid (Tz.below hz (own1 w (.cells #[.int .i64 11, .int .i64 x, .int .i64 y, .int .i64 s, .int .u16 (n : Nat)] 27)))
  clear hz
  go_enter Tryd.func23, Tryd.ntmps23
  go_wp2_with (first | (go_at_call 44; ((with_reducible refine (place_c _ _).mono ?_); rintro e w1 ⟨rfl, hb⟩; have HB := Lib.hid hb; clear hb)) | (go_at_call 46; ((with_reducible refine (pair_c _ _).mono ?_); rintro e w1 ⟨rfl, hb⟩; have HB := Lib.hid hb; clear hb)) | (go_at_call 61; ((with_reducible refine (thru_c _ _).mono ?_); rintro e w1 ⟨rfl, hb⟩; have HB := Lib.hid hb; clear hb)) | (go_at_call 45; ((with_reducible refine (low_c n hn _ HZ.out).mono ?_); rintro e w1 ⟨rfl, hb⟩; have HB := Lib.hid hb; clear hb)) | (go_at_call 47; ((with_reducible refine (word_c n hn _ HZ.out).mono ?_); rintro e w1 ⟨rfl, hb⟩; have HB := Lib.hid hb; clear hb)) | (go_at_call 62; ((with_reducible refine (at_c _ (by first | (rw [hexs_len]; omega) | simp) _).mono ?_); rintro e w2 ⟨rfl, rfl⟩)) | (go_at_call 43; ((with_reducible refine (list_c _ _).mono ?_); rintro e w2 ⟨rfl, rfl⟩)))
  go_ret
  exact ⟨_, rfl, Or.inr ⟨w1.heap.size, 2, rfl, Nat.le_refl _, by simp, Texts.new w1 [[97], hexs n 2] _ rfl 9⟩, via (via (own1 _ _) HB.out) (own1 _ _)⟩
set_option maxRecDepth 100000 in
set_option maxHeartbeats 2000000 in
theorem opr_12 (x y s : Int) (n : Nat) (hn : n < 65536) (w : World) (hz : Tz w) : Calls Tryd.prog 23 #[.agg #[.int .i64 12, .int .i64 x, .int .i64 y, .int .i64 s, .int .u16 (n : Nat)]] w (RetL w [pickL x placeN]) := by
  have HZ := Lib.hid (Tz.below hz (own1 w (.cells #[.int .i64 12, .int .i64 x, .int .i64 y, .int .i64 s, .int .u16 (n : Nat)] 27)))
  clear hz
  go_enter Tryd.func23, Tryd.ntmps23
  go_wp2_with (first | (go_at_call 44; ((with_reducible refine (place_c _ _).mono ?_); rintro e w1 ⟨rfl, hb⟩; have HB := Lib.hid hb; clear hb)) | (go_at_call 46; ((with_reducible refine (pair_c _ _).mono ?_); rintro e w1 ⟨rfl, hb⟩; have HB := Lib.hid hb; clear hb)) | (go_at_call 61; ((with_reducible refine (thru_c _ _).mono ?_); rintro e w1 ⟨rfl, hb⟩; have HB := Lib.hid hb; clear hb)) | (go_at_call 45; ((with_reducible refine (low_c n hn _ HZ.out).mono ?_); rintro e w1 ⟨rfl, hb⟩; have HB := Lib.hid hb; clear hb)) | (go_at_call 47; ((with_reducible refine (word_c n hn _ HZ.out).mono ?_); rintro e w1 ⟨rfl, hb⟩; have HB := Lib.hid hb; clear hb)) | (go_at_call 62; ((with_reducible refine (at_c _ (by first | (rw [hexs_len]; omega) | simp) _).mono ?_); rintro e w2 ⟨rfl, rfl⟩)) | (go_at_call 43; ((with_reducible refine (list_c _ _).mono ?_); rintro e w2 ⟨rfl, rfl⟩)))
  go_ret
  exact ⟨_, rfl, Or.inr ⟨w1.heap.size, 1, rfl, Nat.le_refl _, by simp, Texts.new w1 [pickL x placeN] _ rfl 9⟩, via (via (own1 _ _) HB.out) (own1 _ _)⟩
set_option maxRecDepth 100000 in
set_option maxHeartbeats 2000000 in
theorem opr_13 (x y s : Int) (n : Nat) (hn : n < 65536) (w : World) (hz : Tz w) : Calls Tryd.prog 23 #[.agg #[.int .i64 13, .int .i64 x, .int .i64 y, .int .i64 s, .int .u16 (n : Nat)]] w (RetL w [pickL x placeN]) := by
  have HZ := Lib.hid (Tz.below hz (own1 w (.cells #[.int .i64 13, .int .i64 x, .int .i64 y, .int .i64 s, .int .u16 (n : Nat)] 27)))
  clear hz
  go_enter Tryd.func23, Tryd.ntmps23
  go_wp2_with (first | (go_at_call 44; ((with_reducible refine (place_c _ _).mono ?_); rintro e w1 ⟨rfl, hb⟩; have HB := Lib.hid hb; clear hb)) | (go_at_call 46; ((with_reducible refine (pair_c _ _).mono ?_); rintro e w1 ⟨rfl, hb⟩; have HB := Lib.hid hb; clear hb)) | (go_at_call 61; ((with_reducible refine (thru_c _ _).mono ?_); rintro e w1 ⟨rfl, hb⟩; have HB := Lib.hid hb; clear hb)) | (go_at_call 45; ((with_reducible refine (low_c n hn _ HZ.out).mono ?_); rintro e w1 ⟨rfl, hb⟩; have HB := Lib.hid hb; clear hb)) | (go_at_call 47; ((with_reducible refine (word_c n hn _ HZ.out).mono ?_); rintro e w1 ⟨rfl, hb⟩; have HB := Lib.hid hb; clear hb)) | (go_at_call 62; ((with_reducible refine (at_c _ (by first | (rw [hexs_len]; omega) | simp) _).mono ?_); rintro e w2 ⟨rfl, rfl⟩)) | (go_at_call 43; ((with_reducible refine (list_c _ _).mono ?_); rintro e w2 ⟨rfl, rfl⟩)))
  go_ret
  exact ⟨_, rfl, Or.inr ⟨w1.heap.size, 1, rfl, Nat.le_refl _, by simp, Texts.new w1 [pickL x placeN] _ rfl 9⟩, via (via (own1 _ _) HB.out) (own1 _ _)⟩
set_option maxRecDepth 100000 in
set_option maxHeartbeats 2000000 in
theorem opr_14 (x y s : Int) (n : Nat) (hn : n < 65536) (w : World) (hz : Tz w) : Calls Tryd.prog 23 #[.agg #[.int .i64 14, .int .i64 x, .int .i64 y, .int .i64 s, .int .u16 (n : Nat)]] w (RetL w [pickL x pairN]) := by
  have HZ := Lib.hid (Tz.below hz (own1 w (.cells #[.int .i64 14, .int .i64 x, .int .i64 y, .int .i64 s, .int .u16 (n : Nat)] 27)))
  clear hz
  go_enter Tryd.func23, Tryd.ntmps23
  go_wp2_with (first | (go_at_call 44; ((with_reducible refine (place_c _ _).mono ?_); rintro e w1 ⟨rfl, hb⟩; have HB := Lib.hid hb; clear hb)) | (go_at_call 46; ((with_reducible refine (pair_c _ _).mono ?_); rintro e w1 ⟨rfl, hb⟩; have HB := Lib.hid hb; clear hb)) | (go_at_call 61; ((with_reducible refine (thru_c _ _).mono ?_); rintro e w1 ⟨rfl, hb⟩; have HB := Lib.hid hb; clear hb)) | (go_at_call 45; ((with_reducible refine (low_c n hn _ HZ.out).mono ?_); rintro e w1 ⟨rfl, hb⟩; have HB := Lib.hid hb; clear hb)) | (go_at_call 47; ((with_reducible refine (word_c n hn _ HZ.out).mono ?_); rintro e w1 ⟨rfl, hb⟩; have HB := Lib.hid hb; clear hb)) | (go_at_call 62; ((with_reducible refine (at_c _ (by first | (rw [hexs_len]; omega) | simp) _).mono ?_); rintro e w2 ⟨rfl, rfl⟩)) | (go_at_call 43; ((with_reducible refine (list_c _ _).mono ?_); rintro e w2 ⟨rfl, rfl⟩)))
  go_ret
  exact ⟨_, rfl, Or.inr ⟨w1.heap.size, 1, rfl, Nat.le_refl _, by simp, Texts.new w1 [pickL x pairN] _ rfl 9⟩, via (via (own1 _ _) HB.out) (own1 _ _)⟩
set_option maxRecDepth 100000 in
set_option maxHeartbeats 2000000 in
theorem opr_15 (x y s : Int) (n : Nat) (hn : n < 65536) (w : World) (hz : Tz w) : Calls Tryd.prog 23 #[.agg #[.int .i64 15, .int .i64 x, .int .i64 y, .int .i64 s, .int .u16 (n : Nat)]] w (RetL w [pickL x pairN]) := by
  have HZ := Lib.hid (Tz.below hz (own1 w (.cells #[.int .i64 15, .int .i64 x, .int .i64 y, .int .i64 s, .int .u16 (n : Nat)] 27)))
  clear hz
  go_enter Tryd.func23, Tryd.ntmps23
  go_wp2_with (first | (go_at_call 44; ((with_reducible refine (place_c _ _).mono ?_); rintro e w1 ⟨rfl, hb⟩; have HB := Lib.hid hb; clear hb)) | (go_at_call 46; ((with_reducible refine (pair_c _ _).mono ?_); rintro e w1 ⟨rfl, hb⟩; have HB := Lib.hid hb; clear hb)) | (go_at_call 61; ((with_reducible refine (thru_c _ _).mono ?_); rintro e w1 ⟨rfl, hb⟩; have HB := Lib.hid hb; clear hb)) | (go_at_call 45; ((with_reducible refine (low_c n hn _ HZ.out).mono ?_); rintro e w1 ⟨rfl, hb⟩; have HB := Lib.hid hb; clear hb)) | (go_at_call 47; ((with_reducible refine (word_c n hn _ HZ.out).mono ?_); rintro e w1 ⟨rfl, hb⟩; have HB := Lib.hid hb; clear hb)) | (go_at_call 62; ((with_reducible refine (at_c _ (by first | (rw [hexs_len]; omega) | simp) _).mono ?_); rintro e w2 ⟨rfl, rfl⟩)) | (go_at_call 43; ((with_reducible refine (list_c _ _).mono ?_); rintro e w2 ⟨rfl, rfl⟩)))
  go_ret
  exact ⟨_, rfl, Or.inr ⟨w1.heap.size, 1, rfl, Nat.le_refl _, by simp, Texts.new w1 [pickL x pairN] _ rfl 9⟩, via (via (own1 _ _) HB.out) (own1 _ _)⟩
set_option maxRecDepth 100000 in
set_option maxHeartbeats 2000000 in
theorem opr_16 (x y s : Int) (n : Nat) (hn : n < 65536) (w : World) (hz : Tz w) : Calls Tryd.prog 23 #[.agg #[.int .i64 16, .int .i64 x, .int .i64 y, .int .i64 s, .int .u16 (n : Nat)]] w (RetL w [[104, 108], pickL x pairN]) := by
  have HZ := Lib.hid (Tz.below hz (own1 w (.cells #[.int .i64 16, .int .i64 x, .int .i64 y, .int .i64 s, .int .u16 (n : Nat)] 27)))
  clear hz
  go_enter Tryd.func23, Tryd.ntmps23
  go_wp2_with (first | (go_at_call 44; ((with_reducible refine (place_c _ _).mono ?_); rintro e w1 ⟨rfl, hb⟩; have HB := Lib.hid hb; clear hb)) | (go_at_call 46; ((with_reducible refine (pair_c _ _).mono ?_); rintro e w1 ⟨rfl, hb⟩; have HB := Lib.hid hb; clear hb)) | (go_at_call 61; ((with_reducible refine (thru_c _ _).mono ?_); rintro e w1 ⟨rfl, hb⟩; have HB := Lib.hid hb; clear hb)) | (go_at_call 45; ((with_reducible refine (low_c n hn _ HZ.out).mono ?_); rintro e w1 ⟨rfl, hb⟩; have HB := Lib.hid hb; clear hb)) | (go_at_call 47; ((with_reducible refine (word_c n hn _ HZ.out).mono ?_); rintro e w1 ⟨rfl, hb⟩; have HB := Lib.hid hb; clear hb)) | (go_at_call 62; ((with_reducible refine (at_c _ (by first | (rw [hexs_len]; omega) | simp) _).mono ?_); rintro e w2 ⟨rfl, rfl⟩)) | (go_at_call 43; ((with_reducible refine (list_c _ _).mono ?_); rintro e w2 ⟨rfl, rfl⟩)))
  go_ret
  exact ⟨_, rfl, Or.inr ⟨w1.heap.size, 2, rfl, Nat.le_refl _, by simp, Texts.new w1 [[104, 108], pickL x pairN] _ rfl 9⟩, via (via (own1 _ _) HB.out) (own1 _ _)⟩
set_option maxRecDepth 100000 in
set_option maxHeartbeats 2000000 in
theorem opr_17 (x y s : Int) (n : Nat) (hn : n < 65536) (w : World) (hz : Tz w) : Calls Tryd.prog 23 #[.agg #[.int .i64 17, .int .i64 x, .int .i64 y, .int .i64 s, .int .u16 (n : Nat)]] w (RetL w [pickL y placeN]) := by
  have HZ := Lib.hid (Tz.below hz (own1 w (.cells #[.int .i64 17, .int .i64 x, .int .i64 y, .int .i64 s, .int .u16 (n : Nat)] 27)))
  clear hz
  go_enter Tryd.func23, Tryd.ntmps23
  go_wp2_with (first | (go_at_call 44; ((with_reducible refine (place_c _ _).mono ?_); rintro e w1 ⟨rfl, hb⟩; have HB := Lib.hid hb; clear hb)) | (go_at_call 46; ((with_reducible refine (pair_c _ _).mono ?_); rintro e w1 ⟨rfl, hb⟩; have HB := Lib.hid hb; clear hb)) | (go_at_call 61; ((with_reducible refine (thru_c _ _).mono ?_); rintro e w1 ⟨rfl, hb⟩; have HB := Lib.hid hb; clear hb)) | (go_at_call 45; ((with_reducible refine (low_c n hn _ HZ.out).mono ?_); rintro e w1 ⟨rfl, hb⟩; have HB := Lib.hid hb; clear hb)) | (go_at_call 47; ((with_reducible refine (word_c n hn _ HZ.out).mono ?_); rintro e w1 ⟨rfl, hb⟩; have HB := Lib.hid hb; clear hb)) | (go_at_call 62; ((with_reducible refine (at_c _ (by first | (rw [hexs_len]; omega) | simp) _).mono ?_); rintro e w2 ⟨rfl, rfl⟩)) | (go_at_call 43; ((with_reducible refine (list_c _ _).mono ?_); rintro e w2 ⟨rfl, rfl⟩)))
  go_ret
  exact ⟨_, rfl, Or.inr ⟨w1.heap.size, 1, rfl, Nat.le_refl _, by simp, Texts.new w1 [pickL y placeN] _ rfl 9⟩, via (via (own1 _ _) HB.out) (own1 _ _)⟩
set_option maxRecDepth 100000 in
set_option maxHeartbeats 2000000 in
theorem opr_28 (x y s : Int) (n : Nat) (hn : n < 65536) (w : World) (hz : Tz w) : Calls Tryd.prog 23 #[.agg #[.int .i64 28, .int .i64 x, .int .i64 y, .int .i64 s, .int .u16 (n : Nat)]] w (RetL w [hexs n 2]) := by
  have HZ := Lib.hid (Tz.below hz (own1 w (.cells #[.int .i64 28, .int .i64 x, .int .i64 y, .int .i64 s, .int .u16 (n : Nat)] 27)))
  clear hz
  go_enter Tryd.func23, Tryd.ntmps23
  go_wp2_with (first | (go_at_call 44; ((with_reducible refine (place_c _ _).mono ?_); rintro e w1 ⟨rfl, hb⟩; have HB := Lib.hid hb; clear hb)) | (go_at_call 46; ((with_reducible refine (pair_c _ _).mono ?_); rintro e w1 ⟨rfl, hb⟩; have HB := Lib.hid hb; clear hb)) | (go_at_call 61; ((with_reducible refine (thru_c _ _).mono ?_); rintro e w1 ⟨rfl, hb⟩; have HB := Lib.hid hb; clear hb)) | (go_at_call 45; ((with_reducible refine (low_c n hn _ HZ.out).mono ?_); rintro e w1 ⟨rfl, hb⟩; have HB := Lib.hid hb; clear hb)) | (go_at_call 47; ((with_reducible refine (word_c n hn _ HZ.out).mono ?_); rintro e w1 ⟨rfl, hb⟩; have HB := Lib.hid hb; clear hb)) | (go_at_call 62; ((with_reducible refine (at_c _ (by first | (rw [hexs_len]; omega) | simp) _).mono ?_); rintro e w2 ⟨rfl, rfl⟩)) | (go_at_call 43; ((with_reducible refine (list_c _ _).mono ?_); rintro e w2 ⟨rfl, rfl⟩)))
  go_ret
  exact ⟨_, rfl, Or.inr ⟨w1.heap.size, 1, rfl, Nat.le_refl _, by simp, Texts.new w1 [hexs n 2] _ rfl 9⟩, via (via (own1 _ _) HB.out) (own1 _ _)⟩
set_option maxRecDepth 100000 in
set_option maxHeartbeats 2000000 in
theorem opr_29 (x y s : Int) (n : Nat) (hn : n < 65536) (w : World) (hz : Tz w) : Calls Tryd.prog 23 #[.agg #[.int .i64 29, .int .i64 x, .int .i64 y, .int .i64 s, .int .u16 (n : Nat)]] w (RetL w [[104, 108]]) := by
  have HZ := Lib.hid (Tz.below hz (own1 w (.cells #[.int .i64 29, .int .i64 x, .int .i64 y, .int .i64 s, .int .u16 (n : Nat)] 27)))
  clear hz
  go_enter Tryd.func23, Tryd.ntmps23
  go_wp2_with (first | (go_at_call 44; ((with_reducible refine (place_c _ _).mono ?_); rintro e w1 ⟨rfl, hb⟩; have HB := Lib.hid hb; clear hb)) | (go_at_call 46; ((with_reducible refine (pair_c _ _).mono ?_); rintro e w1 ⟨rfl, hb⟩; have HB := Lib.hid hb; clear hb)) | (go_at_call 61; ((with_reducible refine (thru_c _ _).mono ?_); rintro e w1 ⟨rfl, hb⟩; have HB := Lib.hid hb; clear hb)) | (go_at_call 45; ((with_reducible refine (low_c n hn _ HZ.out).mono ?_); rintro e w1 ⟨rfl, hb⟩; have HB := Lib.hid hb; clear hb)) | (go_at_call 47; ((with_reducible refine (word_c n hn _ HZ.out).mono ?_); rintro e w1 ⟨rfl, hb⟩; have HB := Lib.hid hb; clear hb)) | (go_at_call 62; ((with_reducible refine (at_c _ (by first | (rw [hexs_len]; omega) | simp) _).mono ?_); rintro e w2 ⟨rfl, rfl⟩)) | (go_at_call 43; ((with_reducible refine (list_c _ _).mono ?_); rintro e w2 ⟨rfl, rfl⟩)))
  go_ret
  exact ⟨_, rfl, Or.inr ⟨(w.heap.size + 1), 1, rfl, Nat.le_refl _, by simp, Texts.newB (w.alloc (.cells #[.int .i64 29, .int .i64 x, .int .i64 y, .int .i64 s, .int .u16 (n : Nat)] 27)) [[104, 108]] _ rfl 9 _ (by simp)⟩, own2 _ _ _⟩
set_option maxRecDepth 100000 in
set_option maxHeartbeats 2000000 in
theorem opr_30 (x y s : Int) (n : Nat) (hn : n < 65536) (w : World) (hz : Tz w) : Calls Tryd.prog 23 #[.agg #[.int .i64 30, .int .i64 x, .int .i64 y, .int .i64 s, .int .u16 (n : Nat)]] w (RetL w [pickL x pairN]) := by
  have HZ := Lib.hid (Tz.below hz (own1 w (.cells #[.int .i64 30, .int .i64 x, .int .i64 y, .int .i64 s, .int .u16 (n : Nat)] 27)))
  clear hz
  go_enter Tryd.func23, Tryd.ntmps23
  go_wp2_with (first | (go_at_call 44; ((with_reducible refine (place_c _ _).mono ?_); rintro e w1 ⟨rfl, hb⟩; have HB := Lib.hid hb; clear hb)) | (go_at_call 46; ((with_reducible refine (pair_c _ _).mono ?_); rintro e w1 ⟨rfl, hb⟩; have HB := Lib.hid hb; clear hb)) | (go_at_call 61; ((with_reducible refine (thru_c _ _).mono ?_); rintro e w1 ⟨rfl, hb⟩; have HB := Lib.hid hb; clear hb)) | (go_at_call 45; ((with_reducible refine (low_c n hn _ HZ.out).mono ?_); rintro e w1 ⟨rfl, hb⟩; have HB := Lib.hid hb; clear hb)) | (go_at_call 47; ((with_reducible refine (word_c n hn _ HZ.out).mono ?_); rintro e w1 ⟨rfl, hb⟩; have HB := Lib.hid hb; clear hb)) | (go_at_call 62; ((with_reducible refine (at_c _ (by first | (rw [hexs_len]; omega) | simp) _).mono ?_); rintro e w2 ⟨rfl, rfl⟩)) | (go_at_call 43; ((with_reducible refine (list_c _ _).mono ?_); rintro e w2 ⟨rfl, rfl⟩)))
  go_ret
  exact ⟨_, rfl, Or.inr ⟨w1.heap.size, 1, rfl, Nat.le_refl _, by simp, Texts.new w1 [pickL x pairN] _ rfl 9⟩, via (via (own1 _ _) HB.out) (own1 _ _)⟩
set_option maxRecDepth 100000 in
set_option maxHeartbeats 2000000 in
theorem opr_31 (x y s : Int) (n : Nat) (hn : n < 65536) (w : World) (hz : Tz w) : Calls Tryd.prog 23 #[.agg #[.int .i64 31, .int .i64 x, .int .i64 y, .int .i64 s, .int .u16 (n : Nat)]] w (RetL w [pickL x pairN]) := by
  have HZ := Lib.hid (Tz.below hz (own1 w (.cells #[.int .i64 31, .int .i64 x, .int .i64 y, .int .i64 s, .int .u16 (n : Nat)] 27)))
  clear hz
  go_enter Tryd.func23, Tryd.ntmps23
  go_wp2_with (first | (go_at_call 44; ((with_reducible refine (place_c _ _).mono ?_); rintro e w1 ⟨rfl, hb⟩; have HB := Lib.hid hb; clear hb)) | (go_at_call 46; ((with_reducible refine (pair_c _ _).mono ?_); rintro e w1 ⟨rfl, hb⟩; have HB := Lib.hid hb; clear hb)) | (go_at_call 61; ((with_reducible refine (thru_c _ _).mono ?_); rintro e w1 ⟨rfl, hb⟩; have HB := Lib.hid hb; clear hb)) | (go_at_call 45; ((with_reducible refine (low_c n hn _ HZ.out).mono ?_); rintro e w1 ⟨rfl, hb⟩; have HB := Lib.hid hb; clear hb)) | (go_at_call 47; ((with_reducible refine (word_c n hn _ HZ.out).mono ?_); rintro e w1 ⟨rfl, hb⟩; have HB := Lib.hid hb; clear hb)) | (go_at_call 62; ((with_reducible refine (at_c _ (by first | (rw [hexs_len]; omega) | simp) _).mono ?_); rintro e w2 ⟨rfl, rfl⟩)) | (go_at_call 43; ((with_reducible refine (list_c _ _).mono ?_); rintro e w2 ⟨rfl, rfl⟩)))
  go_ret
  exact ⟨_, rfl, Or.inr ⟨w1.heap.size, 1, rfl, Nat.le_refl _, by simp, Texts.new w1 [pickL x pairN] _ rfl 9⟩, via (via (own1 _ _) HB.out) (own1 _ _)⟩
set_option maxRecDepth 100000 in
set_option maxHeartbeats 2000000 in
theorem opr_26 (x y s : Int) (n : Nat) (hn : n < 65536) (w : World) (hz : Tz w) : Calls Tryd.prog 23 #[.agg #[.int .i64 26, .int .i64 x, .int .i64 y, .int .i64 s, .int .u16 (n : Nat)]] w (RetL w (condL x [])) := by
  go_enter Tryd.func23, Tryd.ntmps23
  go_wp2_with fail
  refine (condN_c x _).mono ?_
  rintro e w1 ⟨v, rfl, hL, hb⟩
  have HL := Lib.hid hL
  have HB := Lib.hid hb
  clear hL hb
  go_wp2
  go_ret
  exact ⟨_, rfl, HL.out, via (own1 _ _) HB.out⟩
end Go.Proofs.YtaggebfcfebomaaDoor
