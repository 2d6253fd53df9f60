/-
  The walk through OpsNil: it returns true, for all bytes and every world in which the table of package math/bits is as its text lays it.
-/
import Derived.Test.YtaggebfcfebomaaDoorAwake
namespace Go.Proofs.YtaggebfcfebomaaDoor
open Go.ChangeShapes Go.WideShapes Go.ChangeAt Go.RowKit
set_option linter.unusedVariables false
set_option maxRecDepth 100000 in
set_option maxHeartbeats 2000000 in
theorem nil_walk (a b c : Nat) (ha : a < 256) (hb : b < 256) (hc : c < 256) (w : World) (hz : Tz w) : Calls Tryd.prog 7 #[.int .u8 a, .int .u8 b, .int .u8 c] w fun e w' => e = .returned (.bool true) ∧ Below w.heap.size w w' := by
  obtain ⟨r, hr⟩ : ∃ r, decF a b c = r := ⟨_, rfl⟩
  have HR := Lib.hid hr
  clear hr
  have hnot : ∀ (x : Bool) (w : World), (Op.unary .not (.bool x)).run Tryd.prog w = .ok (.bool (!x)) w := fun _ _ => rfl
  go_enter Tryd.func7, Tryd.ntmps7
  go_wp2_with fail
  refine (awake_c w hz).mono ?_
  rintro e w1 ⟨rfl, hb1⟩
  have B1 := Lib.hid hb1
  clear hb1 hz
  go_wp2_with (go_at_call 10; (with_reducible refine (new_c _).mono ?_); rintro e w' ⟨rfl, rfl⟩)
  have TX := Lib.hid (show TabAny ((w1.alloc (.cells Tryd.zeroCells54 54)).alloc (.cells Tryd.zeroCells54 54)) w1.heap.size from Or.inl ((Tab.new w1 54).below (own1 _ _)))
  have TY0 := Tab.new (w1.alloc (.cells Tryd.zeroCells54 54)) 54
  have hs : (w1.alloc (.cells Tryd.zeroCells54 54)).heap.size = w1.heap.size + 1 := by simp
  rw [hs] at TY0
  have TY := Lib.hid (show TabAny ((w1.alloc (.cells Tryd.zeroCells54 54)).alloc (.cells Tryd.zeroCells54 54)) (w1.heap.size + 1) from Or.inl TY0)
  have B2 := Lib.hid (via B1.out (own2 w1 (.cells Tryd.zeroCells54 54) (.cells Tryd.zeroCells54 54)))
  have hle := B1.out.size
  clear TY0 hs B1
  generalize (w1.alloc (.cells Tryd.zeroCells54 54)).alloc (.cells Tryd.zeroCells54 54) = V at TX TY B2 ⊢
  refine (nil_c _ _ _ _).mono ?_
  rintro e V1 ⟨rfl, hb1⟩
  have TX1 := Lib.hid (TX.out.imp (fun h => h.below hb1) (fun h => h.below hb1))
  have TY1 := Lib.hid (TY.out.imp (fun h => h.below hb1) (fun h => h.below hb1))
  have B3 := Lib.hid (via B2.out hb1)
  clear TX TY B2 hb1
  go_wp2_with fail
  refine (dec_c _ a b c ha hb hc r HR.out _ TX1.out).mono ?_
  rintro e V2 ⟨rfl, hO⟩
  have TY2 := Lib.hid (TY1.out.imp (fun h => h.but hO.1 (by omega)) (fun h => h.but hO.1 (by omega)))
  have B4 := Lib.hid (B3.out.trans (hO.1.below hle B3.out.size))
  clear TX1 TY1 B3 hO
  go_wp2_with fail
  refine (dec_c _ a b c ha hb hc r HR.out _ TY2.out).mono ?_
  rintro e V3 ⟨rfl, hO⟩
  have B5 := Lib.hid (B4.out.trans (hO.1.below (by omega) B4.out.size))
  clear TY2 B4 hO
  go_wp2
  go_ret
  exact ⟨rfl, B5.out⟩
end Go.Proofs.YtaggebfcfebomaaDoor
