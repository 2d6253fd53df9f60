/-
  The first test of each law (awake): true, for every world in which the table of package math/bits is as its text lays it.
-/
import Derived.Test.YtaggebfcfebomaaDoorText
import Derived.Test.YtaggebfcfebomaaDoorDec
namespace Go.Proofs.YtaggebfcfebomaaDoor
open Go.ChangeShapes Go.WideShapes Go.ChangeAt Go.RowKit
set_option linter.unusedVariables false

theorem Tz.but {b : Nat} {w w' : World} (h : Tz w) (hb : But b w w') (hn : 3 ≠ b) : Tz w' := (hb.cell (p := ⟨3, 15, none⟩) h.lt hn).trans h
theorem dec_aw : decF 62 18 0 = ⟨8, 7, 0, 2, 18⟩ := by decide +kernel
theorem txt_aw : textL ⟨8, 7, 0, 2, 18⟩ = [108, 100, 32, 97, 44, 32, 49, 50] := by decide +kernel
theorem awd (tb : Nat) (w : World) (T0 : TabAny w tb) : Calls Tryd.prog 11 #[.pointer (some ⟨tb, 0, none⟩), .int .u8 62, .int .u8 18, .int .u8 0] w fun e w' =>
    e = .returned (.agg #[.int .i64 8, .int .i64 7, .int .i64 0, .int .i64 2, .int .u16 18]) ∧ Out tb w w' := dec_c tb 62 18 0 (by decide) (by decide) (by decide) ⟨8, 7, 0, 2, 18⟩ dec_aw w T0
theorem awt (w : World) (hz : Tz w) : Calls Tryd.prog 13 #[.agg #[.int .i64 8, .int .i64 7, .int .i64 0, .int .i64 2, .int .u16 18]] w fun e w' =>
    e = .returned (.string ⟨#[108, 100, 32, 97, 44, 32, 49, 50]⟩) ∧ Below w.heap.size w w' := by
  have h := text_c ⟨8, 7, 0, 2, 18⟩ (by decide) (by decide) w hz
  rwa [txt_aw] at h
set_option maxRecDepth 100000 in
set_option maxHeartbeats 2000000 in
theorem awake_c (w : World) (hz : Tz w) : Calls Tryd.prog 9 #[] w fun e w' => e = .returned (.bool true) ∧ Below w.heap.size w w' := by
  have hlt := hz.lt
  have T1 := Lib.hid (show TabAny (w.alloc (.cells Tryd.zeroCells54 54)) w.heap.size from Or.inl (Tab.new w 54))
  have Z1 := Lib.hid (hz.below (own1 w (.cells Tryd.zeroCells54 54)))
  have B1 := Lib.hid (own1 w (.cells Tryd.zeroCells54 54))
  clear hz
  go_enter Tryd.func9, Tryd.ntmps9
  go_wp2_with (go_at_call 10; (with_reducible refine (new_c _).mono ?_); rintro e w' ⟨rfl, rfl⟩)
  generalize w.alloc (.cells Tryd.zeroCells54 54) = V at T1 Z1 B1 ⊢
  refine (awd _ _ T1.out).mono ?_
  rintro e V2 ⟨rfl, hO⟩
  have Z2 := Z1.out.but hO.1 (by omega)
  have B2 : Below w.heap.size w V2 := B1.out.trans (hO.1.below (Nat.le_refl _) B1.out.size)
  have Z3 := Lib.hid (Z2.below (own1 V2 (.cells #[.int .i64 8, .int .i64 7, .int .i64 0, .int .i64 2, .int .u16 18] 27)))
  have B3 := Lib.hid (via B2 (own1 V2 (.cells #[.int .i64 8, .int .i64 7, .int .i64 0, .int .i64 2, .int .u16 18] 27)))
  clear Z1 B1 T1 Z2 B2 hO hlt
  go_wp2_with (go_at_call 13; (with_reducible refine (awt _ Z3.out).mono ?_); rintro e V3 ⟨rfl, hb⟩)
  have B4 := via B3.out hb
  clear Z3 B3 hb
  go_ret
  exact ⟨rfl, B4⟩
end Go.Proofs.YtaggebfcfebomaaDoor
