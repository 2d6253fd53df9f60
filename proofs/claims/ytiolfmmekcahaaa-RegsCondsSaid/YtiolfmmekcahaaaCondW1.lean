/-
  The walk through RegsConds for one range of numbers: it returns true; the condition is that range.
-/
import Derived.Test.YtiolfmmekcahaaaCondI
namespace Go.Proofs.Ytiolfmmekcahaaa.regsConds
open Go.ChangeShapes Go.WideShapes Go.ChangeAt Go.RowKit

set_option maxHeartbeats 4000000 in
theorem walk1 (f n : Int) (z c : Bool) (h1 : 0 ≤ f) (h2 : f < 256) (hz : (f / 128 == 1) = z) (hc : (f / 16 % 2 == 1) = c) (hn : 4 < n) (w : World) :
    Calls Try.prog 7 #[.int .u8 f, .int .i64 n] w fun e w' => e = .returned (.bool true) ∧ Below w.heap.size w w' := by
  have ez := (z1 f h1 h2).trans hz
  have ec := (c1 f h1 h2).trans hc
  have Z := Lib.hid hz
  have C := Lib.hid hc
  have q0 : ((!z) != z) = true := by cases z <;> rfl
  have q1 : ((!c) != c) = true := by cases c <;> rfl
  have g0 : decide (0 ≤ n) = true := by simp; omega
  have g1 : decide (n ≤ 4) = false := by simp; omega
  clear hz hc
  go_enter Try.func7, Try.ntmps7
  go_wp2_with fail
  refine (awake_c _).mono ?_
  rintro e w1 ⟨rfl, hb1⟩
  have B1 := Lib.hid hb1; clear hb1
  go_wp2
  have hS := In.new B1.out #[.int .u8 0, .int .u8 f, .int .u8 0, .int .u8 0, .int .u8 0, .int .u8 0, .int .u8 0, .int .u8 0, .int .u16 0, .int .u16 0] 26
  have HS := Lib.hid hS; clear hS
  go_region_held3 (fun w' => (∀ o, w'.cell? ⟨w1.heap.size, o, none⟩ = #[Value.int .u8 0, .int .u8 f, .int .u8 0, .int .u8 0, .int .u8 0, .int .u8 0, .int .u8 0, .int .u8 0, .int .u16 0, .int .u16 0][o]?) ∧ In w w1.heap.size w')
      (first | exact HS.out | assumption | exact In.step ‹_ ∧ In _ _ _› hb)
      (first
        | (go_at_call 14; (with_reducible refine (i0 f _ h1 h2 Z.out _).mono ?_); rintro e w2 ⟨rfl, hb⟩)
        | (go_at_call 14; (with_reducible refine (i1 f _ h1 h2 Z.out _).mono ?_); rintro e w2 ⟨rfl, hb⟩)
        | (go_at_call 14; (with_reducible refine (i2 f _ h1 h2 C.out _).mono ?_); rintro e w2 ⟨rfl, hb⟩)
        | (go_at_call 14; (with_reducible refine (i3 f _ h1 h2 C.out _).mono ?_); rintro e w2 ⟨rfl, hb⟩)
        | (go_at_call 14; (with_reducible refine (i4 f h1 h2 _).mono ?_); rintro e w2 ⟨rfl, hb⟩)
        | (go_at_call 14; (with_reducible refine (i5 f n h1 h2 (by omega) _).mono ?_); rintro e w2 ⟨rfl, hb⟩))
  all_goals
    go_wp2
    go_ret
    exact ⟨rfl, (‹_ ∧ In _ _ _› : _ ∧ In _ _ _).2.2⟩

end Go.Proofs.Ytiolfmmekcahaaa.regsConds
