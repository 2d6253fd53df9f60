/-
  What ops.operands returns, kind by kind: for every world in which the table of package math/bits is as its text lays it, and every order.
-/
import Derived.Test.YtaggebfcfebomaaDoorCp
namespace Go.Proofs.YtaggebfcfebomaaDoor
open Go.ChangeShapes Go.WideShapes Go.ChangeAt Go.RowKit
set_option linter.unusedVariables false
set_option maxRecDepth 100000 in
set_option maxHeartbeats 2000000 in
theorem opr_1 (x y s : Int) (n : Nat) (hn : n < 65536) (w : World) (hz : Tz w) : Calls Tryd.prog 23 #[.agg #[.int .i64 1, .int .i64 x, .int .i64 y, .int .i64 s, .int .u16 (n : Nat)]] w (RetL w []) := by
  have HZ := Lib.hid (Tz.below hz (own1 w (.cells #[.int .i64 1, .int .i64 x, .int .i64 y, .int .i64 s, .int .u16 (n : Nat)] 27)))
  clear hz
  go_enter Tryd.func23, Tryd.ntmps23
  go_wp2_with fail
  refine (cp_1 x y s n _).mono ?_
  rintro e w1 ⟨v, rfl, hL, hb⟩
  have HL := Lib.hid hL
  have HB := Lib.hid hb
  clear hL hb
  go_wp2
  go_ret
  exact ⟨_, rfl, HL.out, via (own1 _ _) HB.out⟩
set_option maxRecDepth 100000 in
set_option maxHeartbeats 2000000 in
theorem opr_3 (x y s : Int) (n : Nat) (hn : n < 65536) (w : World) (hz : Tz w) : Calls Tryd.prog 23 #[.agg #[.int .i64 3, .int .i64 x, .int .i64 y, .int .i64 s, .int .u16 (n : Nat)]] w (RetL w []) := by
  have HZ := Lib.hid (Tz.below hz (own1 w (.cells #[.int .i64 3, .int .i64 x, .int .i64 y, .int .i64 s, .int .u16 (n : Nat)] 27)))
  clear hz
  go_enter Tryd.func23, Tryd.ntmps23
  go_wp2_with fail
  refine (cp_3 x y s n _).mono ?_
  rintro e w1 ⟨v, rfl, hL, hb⟩
  have HL := Lib.hid hL
  have HB := Lib.hid hb
  clear hL hb
  go_wp2
  go_ret
  exact ⟨_, rfl, HL.out, via (own1 _ _) HB.out⟩
set_option maxRecDepth 100000 in
set_option maxHeartbeats 2000000 in
theorem opr_4 (x y s : Int) (n : Nat) (hn : n < 65536) (w : World) (hz : Tz w) : Calls Tryd.prog 23 #[.agg #[.int .i64 4, .int .i64 x, .int .i64 y, .int .i64 s, .int .u16 (n : Nat)]] w (RetL w []) := by
  have HZ := Lib.hid (Tz.below hz (own1 w (.cells #[.int .i64 4, .int .i64 x, .int .i64 y, .int .i64 s, .int .u16 (n : Nat)] 27)))
  clear hz
  go_enter Tryd.func23, Tryd.ntmps23
  go_wp2_with fail
  refine (cp_4 x y s n _).mono ?_
  rintro e w1 ⟨v, rfl, hL, hb⟩
  have HL := Lib.hid hL
  have HB := Lib.hid hb
  clear hL hb
  go_wp2
  go_ret
  exact ⟨_, rfl, HL.out, via (own1 _ _) HB.out⟩
set_option maxRecDepth 100000 in
set_option maxHeartbeats 2000000 in
theorem opr_5 (x y s : Int) (n : Nat) (hn : n < 65536) (w : World) (hz : Tz w) : Calls Tryd.prog 23 #[.agg #[.int .i64 5, .int .i64 x, .int .i64 y, .int .i64 s, .int .u16 (n : Nat)]] w (RetL w []) := by
  have HZ := Lib.hid (Tz.below hz (own1 w (.cells #[.int .i64 5, .int .i64 x, .int .i64 y, .int .i64 s, .int .u16 (n : Nat)] 27)))
  clear hz
  go_enter Tryd.func23, Tryd.ntmps23
  go_wp2_with fail
  refine (cp_5 x y s n _).mono ?_
  rintro e w1 ⟨v, rfl, hL, hb⟩
  have HL := Lib.hid hL
  have HB := Lib.hid hb
  clear hL hb
  go_wp2
  go_ret
  exact ⟨_, rfl, HL.out, via (own1 _ _) HB.out⟩
set_option maxRecDepth 100000 in
set_option maxHeartbeats 2000000 in
theorem opr_6 (x y s : Int) (n : Nat) (hn : n < 65536) (w : World) (hz : Tz w) : Calls Tryd.prog 23 #[.agg #[.int .i64 6, .int .i64 x, .int .i64 y, .int .i64 s, .int .u16 (n : Nat)]] w (RetL w []) := by
  have HZ := Lib.hid (Tz.below hz (own1 w (.cells #[.int .i64 6, .int .i64 x, .int .i64 y, .int .i64 s, .int .u16 (n : Nat)] 27)))
  clear hz
  go_enter Tryd.func23, Tryd.ntmps23
  go_wp2_with fail
  refine (cp_6 x y s n _).mono ?_
  rintro e w1 ⟨v, rfl, hL, hb⟩
  have HL := Lib.hid hL
  have HB := Lib.hid hb
  clear hL hb
  go_wp2
  go_ret
  exact ⟨_, rfl, HL.out, via (own1 _ _) HB.out⟩
set_option maxRecDepth 100000 in
set_option maxHeartbeats 2000000 in
theorem opr_18 (x y s : Int) (n : Nat) (hn : n < 65536) (w : World) (hz : Tz w) : Calls Tryd.prog 23 #[.agg #[.int .i64 18, .int .i64 x, .int .i64 y, .int .i64 s, .int .u16 (n : Nat)]] w (RetL w []) := by
  have HZ := Lib.hid (Tz.below hz (own1 w (.cells #[.int .i64 18, .int .i64 x, .int .i64 y, .int .i64 s, .int .u16 (n : Nat)] 27)))
  clear hz
  go_enter Tryd.func23, Tryd.ntmps23
  go_wp2_with fail
  refine (cp_18 x y s n _).mono ?_
  rintro e w1 ⟨v, rfl, hL, hb⟩
  have HL := Lib.hid hL
  have HB := Lib.hid hb
  clear hL hb
  go_wp2
  go_ret
  exact ⟨_, rfl, HL.out, via (own1 _ _) HB.out⟩
set_option maxRecDepth 100000 in
set_option maxHeartbeats 2000000 in
theorem opr_19 (x y s : Int) (n : Nat) (hn : n < 65536) (w : World) (hz : Tz w) : Calls Tryd.prog 23 #[.agg #[.int .i64 19, .int .i64 x, .int .i64 y, .int .i64 s, .int .u16 (n : Nat)]] w (RetL w []) := by
  have HZ := Lib.hid (Tz.below hz (own1 w (.cells #[.int .i64 19, .int .i64 x, .int .i64 y, .int .i64 s, .int .u16 (n : Nat)] 27)))
  clear hz
  go_enter Tryd.func23, Tryd.ntmps23
  go_wp2_with fail
  refine (cp_19 x y s n _).mono ?_
  rintro e w1 ⟨v, rfl, hL, hb⟩
  have HL := Lib.hid hL
  have HB := Lib.hid hb
  clear hL hb
  go_wp2
  go_ret
  exact ⟨_, rfl, HL.out, via (own1 _ _) HB.out⟩
set_option maxRecDepth 100000 in
set_option maxHeartbeats 2000000 in
theorem opr_20 (x y s : Int) (n : Nat) (hn : n < 65536) (w : World) (hz : Tz w) : Calls Tryd.prog 23 #[.agg #[.int .i64 20, .int .i64 x, .int .i64 y, .int .i64 s, .int .u16 (n : Nat)]] w (RetL w []) := by
  have HZ := Lib.hid (Tz.below hz (own1 w (.cells #[.int .i64 20, .int .i64 x, .int .i64 y, .int .i64 s, .int .u16 (n : Nat)] 27)))
  clear hz
  go_enter Tryd.func23, Tryd.ntmps23
  go_wp2_with fail
  refine (cp_20 x y s n _).mono ?_
  rintro e w1 ⟨v, rfl, hL, hb⟩
  have HL := Lib.hid hL
  have HB := Lib.hid hb
  clear hL hb
  go_wp2
  go_ret
  exact ⟨_, rfl, HL.out, via (own1 _ _) HB.out⟩
set_option maxRecDepth 100000 in
set_option maxHeartbeats 2000000 in
theorem opr_21 (x y s : Int) (n : Nat) (hn : n < 65536) (w : World) (hz : Tz w) : Calls Tryd.prog 23 #[.agg #[.int .i64 21, .int .i64 x, .int .i64 y, .int .i64 s, .int .u16 (n : Nat)]] w (RetL w []) := by
  have HZ := Lib.hid (Tz.below hz (own1 w (.cells #[.int .i64 21, .int .i64 x, .int .i64 y, .int .i64 s, .int .u16 (n : Nat)] 27)))
  clear hz
  go_enter Tryd.func23, Tryd.ntmps23
  go_wp2_with fail
  refine (cp_21 x y s n _).mono ?_
  rintro e w1 ⟨v, rfl, hL, hb⟩
  have HL := Lib.hid hL
  have HB := Lib.hid hb
  clear hL hb
  go_wp2
  go_ret
  exact ⟨_, rfl, HL.out, via (own1 _ _) HB.out⟩
set_option maxRecDepth 100000 in
set_option maxHeartbeats 2000000 in
theorem opr_22 (x y s : Int) (n : Nat) (hn : n < 65536) (w : World) (hz : Tz w) : Calls Tryd.prog 23 #[.agg #[.int .i64 22, .int .i64 x, .int .i64 y, .int .i64 s, .int .u16 (n : Nat)]] w (RetL w []) := by
  have HZ := Lib.hid (Tz.below hz (own1 w (.cells #[.int .i64 22, .int .i64 x, .int .i64 y, .int .i64 s, .int .u16 (n : Nat)] 27)))
  clear hz
  go_enter Tryd.func23, Tryd.ntmps23
  go_wp2_with fail
  refine (cp_22 x y s n _).mono ?_
  rintro e w1 ⟨v, rfl, hL, hb⟩
  have HL := Lib.hid hL
  have HB := Lib.hid hb
  clear hL hb
  go_wp2
  go_ret
  exact ⟨_, rfl, HL.out, via (own1 _ _) HB.out⟩
set_option maxRecDepth 100000 in
set_option maxHeartbeats 2000000 in
theorem opr_27 (x y s : Int) (n : Nat) (hn : n < 65536) (w : World) (hz : Tz w) : Calls Tryd.prog 23 #[.agg #[.int .i64 27, .int .i64 x, .int .i64 y, .int .i64 s, .int .u16 (n : Nat)]] w (RetL w []) := by
  have HZ := Lib.hid (Tz.below hz (own1 w (.cells #[.int .i64 27, .int .i64 x, .int .i64 y, .int .i64 s, .int .u16 (n : Nat)] 27)))
  clear hz
  go_enter Tryd.func23, Tryd.ntmps23
  go_wp2_with fail
  refine (cp_27 x y s n _).mono ?_
  rintro e w1 ⟨v, rfl, hL, hb⟩
  have HL := Lib.hid hL
  have HB := Lib.hid hb
  clear hL hb
  go_wp2
  go_ret
  exact ⟨_, rfl, HL.out, via (own1 _ _) HB.out⟩
set_option maxRecDepth 100000 in
set_option maxHeartbeats 2000000 in
theorem opr_32 (x y s : Int) (n : Nat) (hn : n < 65536) (w : World) (hz : Tz w) : Calls Tryd.prog 23 #[.agg #[.int .i64 32, .int .i64 x, .int .i64 y, .int .i64 s, .int .u16 (n : Nat)]] w (RetL w [[97], pickL x thruN]) := by
  have HZ := Lib.hid (Tz.below hz (own1 w (.cells #[.int .i64 32, .int .i64 x, .int .i64 y, .int .i64 s, .int .u16 (n : Nat)] 27)))
  clear hz
  go_enter Tryd.func23, Tryd.ntmps23
  go_wp2_with fail
  refine (cp_32 x y s n hn _ HZ.out).mono ?_
  rintro e w1 ⟨v, rfl, hL, hb⟩
  have HL := Lib.hid hL
  have HB := Lib.hid hb
  clear hL hb
  go_wp2
  go_ret
  exact ⟨_, rfl, HL.out, via (own1 _ _) HB.out⟩
set_option maxRecDepth 100000 in
set_option maxHeartbeats 2000000 in
theorem opr_33 (x y s : Int) (n : Nat) (hn : n < 65536) (w : World) (hz : Tz w) : Calls Tryd.prog 23 #[.agg #[.int .i64 33, .int .i64 x, .int .i64 y, .int .i64 s, .int .u16 (n : Nat)]] w (RetL w [pickL x thruN, [97]]) := by
  have HZ := Lib.hid (Tz.below hz (own1 w (.cells #[.int .i64 33, .int .i64 x, .int .i64 y, .int .i64 s, .int .u16 (n : Nat)] 27)))
  clear hz
  go_enter Tryd.func23, Tryd.ntmps23
  go_wp2_with fail
  refine (cp_33 x y s n hn _ HZ.out).mono ?_
  rintro e w1 ⟨v, rfl, hL, hb⟩
  have HL := Lib.hid hL
  have HB := Lib.hid hb
  clear hL hb
  go_wp2
  go_ret
  exact ⟨_, rfl, HL.out, via (own1 _ _) HB.out⟩
set_option maxRecDepth 100000 in
set_option maxHeartbeats 2000000 in
theorem opr_34 (x y s : Int) (n : Nat) (hn : n < 65536) (w : World) (hz : Tz w) : Calls Tryd.prog 23 #[.agg #[.int .i64 34, .int .i64 x, .int .i64 y, .int .i64 s, .int .u16 (n : Nat)]] w (RetL w [[97], 40 :: (hexs n 2 ++ [41])]) := by
  have HZ := Lib.hid (Tz.below hz (own1 w (.cells #[.int .i64 34, .int .i64 x, .int .i64 y, .int .i64 s, .int .u16 (n : Nat)] 27)))
  clear hz
  go_enter Tryd.func23, Tryd.ntmps23
  go_wp2_with fail
  refine (cp_34 x y s n hn _ HZ.out).mono ?_
  rintro e w1 ⟨v, rfl, hL, hb⟩
  have HL := Lib.hid hL
  have HB := Lib.hid hb
  clear hL hb
  go_wp2
  go_ret
  exact ⟨_, rfl, HL.out, via (own1 _ _) HB.out⟩
set_option maxRecDepth 100000 in
set_option maxHeartbeats 2000000 in
theorem opr_35 (x y s : Int) (n : Nat) (hn : n < 65536) (w : World) (hz : Tz w) : Calls Tryd.prog 23 #[.agg #[.int .i64 35, .int .i64 x, .int .i64 y, .int .i64 s, .int .u16 (n : Nat)]] w (RetL w [40 :: (hexs n 2 ++ [41]), [97]]) := by
  have HZ := Lib.hid (Tz.below hz (own1 w (.cells #[.int .i64 35, .int .i64 x, .int .i64 y, .int .i64 s, .int .u16 (n : Nat)] 27)))
  clear hz
  go_enter Tryd.func23, Tryd.ntmps23
  go_wp2_with fail
  refine (cp_35 x y s n hn _ HZ.out).mono ?_
  rintro e w1 ⟨v, rfl, hL, hb⟩
  have HL := Lib.hid hL
  have HB := Lib.hid hb
  clear hL hb
  go_wp2
  go_ret
  exact ⟨_, rfl, HL.out, via (own1 _ _) HB.out⟩
set_option maxRecDepth 100000 in
set_option maxHeartbeats 2000000 in
theorem opr_36 (x y s : Int) (n : Nat) (hn : n < 65536) (w : World) (hz : Tz w) : Calls Tryd.prog 23 #[.agg #[.int .i64 36, .int .i64 x, .int .i64 y, .int .i64 s, .int .u16 (n : Nat)]] w (RetL w [[97], [40, 99, 41]]) := by
  have HZ := Lib.hid (Tz.below hz (own1 w (.cells #[.int .i64 36, .int .i64 x, .int .i64 y, .int .i64 s, .int .u16 (n : Nat)] 27)))
  clear hz
  go_enter Tryd.func23, Tryd.ntmps23
  go_wp2_with fail
  refine (cp_36 x y s n hn _ HZ.out).mono ?_
  rintro e w1 ⟨v, rfl, hL, hb⟩
  have HL := Lib.hid hL
  have HB := Lib.hid hb
  clear hL hb
  go_wp2
  go_ret
  exact ⟨_, rfl, HL.out, via (own1 _ _) HB.out⟩
set_option maxRecDepth 100000 in
set_option maxHeartbeats 2000000 in
theorem opr_37 (x y s : Int) (n : Nat) (hn : n < 65536) (w : World) (hz : Tz w) : Calls Tryd.prog 23 #[.agg #[.int .i64 37, .int .i64 x, .int .i64 y, .int .i64 s, .int .u16 (n : Nat)]] w (RetL w [[40, 99, 41], [97]]) := by
  have HZ := Lib.hid (Tz.below hz (own1 w (.cells #[.int .i64 37, .int .i64 x, .int .i64 y, .int .i64 s, .int .u16 (n : Nat)] 27)))
  clear hz
  go_enter Tryd.func23, Tryd.ntmps23
  go_wp2_with fail
  refine (cp_37 x y s n hn _ HZ.out).mono ?_
  rintro e w1 ⟨v, rfl, hL, hb⟩
  have HL := Lib.hid hL
  have HB := Lib.hid hb
  clear hL hb
  go_wp2
  go_ret
  exact ⟨_, rfl, HL.out, via (own1 _ _) HB.out⟩
set_option maxRecDepth 100000 in
set_option maxHeartbeats 2000000 in
theorem opr_38 (x y s : Int) (n : Nat) (hn : n < 65536) (w : World) (hz : Tz w) : Calls Tryd.prog 23 #[.agg #[.int .i64 38, .int .i64 x, .int .i64 y, .int .i64 s, .int .u16 (n : Nat)]] w (RetL w [[97], 40 :: (hexs n 4 ++ [41])]) := by
  have HZ := Lib.hid (Tz.below hz (own1 w (.cells #[.int .i64 38, .int .i64 x, .int .i64 y, .int .i64 s, .int .u16 (n : Nat)] 27)))
  clear hz
  go_enter Tryd.func23, Tryd.ntmps23
  go_wp2_with fail
  refine (cp_38 x y s n hn _ HZ.out).mono ?_
  rintro e w1 ⟨v, rfl, hL, hb⟩
  have HL := Lib.hid hL
  have HB := Lib.hid hb
  clear hL hb
  go_wp2
  go_ret
  exact ⟨_, rfl, HL.out, via (own1 _ _) HB.out⟩
set_option maxRecDepth 100000 in
set_option maxHeartbeats 2000000 in
theorem opr_39 (x y s : Int) (n : Nat) (hn : n < 65536) (w : World) (hz : Tz w) : Calls Tryd.prog 23 #[.agg #[.int .i64 39, .int .i64 x, .int .i64 y, .int .i64 s, .int .u16 (n : Nat)]] w (RetL w [40 :: (hexs n 4 ++ [41]), [97]]) := by
  have HZ := Lib.hid (Tz.below hz (own1 w (.cells #[.int .i64 39, .int .i64 x, .int .i64 y, .int .i64 s, .int .u16 (n : Nat)] 27)))
  clear hz
  go_enter Tryd.func23, Tryd.ntmps23
  go_wp2_with fail
  refine (cp_39 x y s n hn _ HZ.out).mono ?_
  rintro e w1 ⟨v, rfl, hL, hb⟩
  have HL := Lib.hid hL
  have HB := Lib.hid hb
  clear hL hb
  go_wp2
  go_ret
  exact ⟨_, rfl, HL.out, via (own1 _ _) HB.out⟩
set_option maxRecDepth 100000 in
set_option maxHeartbeats 2000000 in
theorem opr_40 (x y s : Int) (n : Nat) (hn : n < 65536) (w : World) (hz : Tz w) : Calls Tryd.prog 23 #[.agg #[.int .i64 40, .int .i64 x, .int .i64 y, .int .i64 s, .int .u16 (n : Nat)]] w (RetL w [40 :: (hexs n 4 ++ [41]), [115, 112]]) := by
  have HZ := Lib.hid (Tz.below hz (own1 w (.cells #[.int .i64 40, .int .i64 x, .int .i64 y, .int .i64 s, .int .u16 (n : Nat)] 27)))
  clear hz
  go_enter Tryd.func23, Tryd.ntmps23
  go_wp2_with fail
  refine (cp_40 x y s n hn _ HZ.out).mono ?_
  rintro e w1 ⟨v, rfl, hL, hb⟩
  have HL := Lib.hid hL
  have HB := Lib.hid hb
  clear hL hb
  go_wp2
  go_ret
  exact ⟨_, rfl, HL.out, via (own1 _ _) HB.out⟩
set_option maxRecDepth 100000 in
set_option maxHeartbeats 2000000 in
theorem opr_41 (x y s : Int) (n : Nat) (hn : n < 65536) (w : World) (hz : Tz w) : Calls Tryd.prog 23 #[.agg #[.int .i64 41, .int .i64 x, .int .i64 y, .int .i64 s, .int .u16 (n : Nat)]] w (RetL w [[115, 112], hexs n 2]) := by
  have HZ := Lib.hid (Tz.below hz (own1 w (.cells #[.int .i64 41, .int .i64 x, .int .i64 y, .int .i64 s, .int .u16 (n : Nat)] 27)))
  clear hz
  go_enter Tryd.func23, Tryd.ntmps23
  go_wp2_with fail
  refine (cp_41 x y s n hn _ HZ.out).mono ?_
  rintro e w1 ⟨v, rfl, hL, hb⟩
  have HL := Lib.hid hL
  have HB := Lib.hid hb
  clear hL hb
  go_wp2
  go_ret
  exact ⟨_, rfl, HL.out, via (own1 _ _) HB.out⟩
set_option maxRecDepth 100000 in
set_option maxHeartbeats 2000000 in
theorem opr_42 (x y s : Int) (n : Nat) (hn : n < 65536) (w : World) (hz : Tz w) : Calls Tryd.prog 23 #[.agg #[.int .i64 42, .int .i64 x, .int .i64 y, .int .i64 s, .int .u16 (n : Nat)]] w (RetL w [[104, 108], 115 :: 112 :: 43 :: hexs n 2]) := by
  have HZ := Lib.hid (Tz.below hz (own1 w (.cells #[.int .i64 42, .int .i64 x, .int .i64 y, .int .i64 s, .int .u16 (n : Nat)] 27)))
  clear hz
  go_enter Tryd.func23, Tryd.ntmps23
  go_wp2_with fail
  refine (cp_42 x y s n hn _ HZ.out).mono ?_
  rintro e w1 ⟨v, rfl, hL, hb⟩
  have HL := Lib.hid hL
  have HB := Lib.hid hb
  clear hL hb
  go_wp2
  go_ret
  exact ⟨_, rfl, HL.out, via (own1 _ _) HB.out⟩
set_option maxRecDepth 100000 in
set_option maxHeartbeats 2000000 in
theorem opr_43 (x y s : Int) (n : Nat) (hn : n < 65536) (w : World) (hz : Tz w) : Calls Tryd.prog 23 #[.agg #[.int .i64 43, .int .i64 x, .int .i64 y, .int .i64 s, .int .u16 (n : Nat)]] w (RetL w [[115, 112], [104, 108]]) := by
  have HZ := Lib.hid (Tz.below hz (own1 w (.cells #[.int .i64 43, .int .i64 x, .int .i64 y, .int .i64 s, .int .u16 (n : Nat)] 27)))
  clear hz
  go_enter Tryd.func23, Tryd.ntmps23
  go_wp2_with fail
  refine (cp_43 x y s n hn _ HZ.out).mono ?_
  rintro e w1 ⟨v, rfl, hL, hb⟩
  have HL := Lib.hid hL
  have HB := Lib.hid hb
  clear hL hb
  go_wp2
  go_ret
  exact ⟨_, rfl, HL.out, via (own1 _ _) HB.out⟩
set_option maxRecDepth 100000 in
set_option maxHeartbeats 2000000 in
theorem opr_d (k x y s : Int) (n : Nat) (h1 : (k == 1) = false) (h2 : (k == 2) = false) (h3 : (k == 3) = false) (h4 : (k == 4) = false) (h5 : (k == 5) = false) (h6 : (k == 6) = false) (h7 : (k == 7) = false) (h8 : (k == 8) = false) (h9 : (k == 9) = false) (h10 : (k == 10) = false) (h11 : (k == 11) = false) (h12 : (k == 12) = false) (h13 : (k == 13) = false) (h14 : (k == 14) = false) (h15 : (k == 15) = false) (h16 : (k == 16) = false) (h17 : (k == 17) = false) (h18 : (k == 18) = false) (h19 : (k == 19) = false) (h20 : (k == 20) = false) (h21 : (k == 21) = false) (h22 : (k == 22) = false) (h23 : (k == 23) = false) (h24 : (k == 24) = false) (h25 : (k == 25) = false) (h26 : (k == 26) = false) (h27 : (k == 27) = false) (h28 : (k == 28) = false) (h29 : (k == 29) = false) (h30 : (k == 30) = false) (h31 : (k == 31) = false) (h32 : (k == 32) = false) (h33 : (k == 33) = false) (h34 : (k == 34) = false) (h35 : (k == 35) = false) (h36 : (k == 36) = false) (h37 : (k == 37) = false) (h38 : (k == 38) = false) (h39 : (k == 39) = false) (h40 : (k == 40) = false) (h41 : (k == 41) = false) (h42 : (k == 42) = false) (h43 : (k == 43) = false) (h44 : (k == 44) = false) (h45 : (k == 45) = false) (h46 : (k == 46) = false) (w : World) : Calls Tryd.prog 23 #[.agg #[.int .i64 k, .int .i64 x, .int .i64 y, .int .i64 s, .int .u16 (n : Nat)]] w (RetL w []) := by
  have H := fun w => cp_d k x y s n h32 h33 h34 h35 h36 h37 h38 h39 h40 h41 h42 h43 w
  clear h32 h33 h34 h35 h36 h37 h38 h39 h40 h41 h42 h43
  go_enter Tryd.func23, Tryd.ntmps23
  go_wp2_with fail
  refine (H _).mono ?_
  rintro e w1 ⟨v, rfl, hL, hb⟩
  have HL := Lib.hid hL
  have HB := Lib.hid hb
  clear hL hb H
  go_wp2
  go_ret
  exact ⟨_, rfl, HL.out, via (own1 _ _) HB.out⟩
end Go.Proofs.YtaggebfcfebomaaDoor
