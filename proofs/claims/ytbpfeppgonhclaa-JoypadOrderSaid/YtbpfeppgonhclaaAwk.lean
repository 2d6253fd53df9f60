/-
  The call that each law begins with: for every world; no condition.
-/
import Derived.Test.YtbpfeppgonhclaaPm
import Derived.Test.YtbpfeppgonhclaaRf
import Derived.Deep.Cut
import Derived.Laws.StructEq
namespace Go.Proofs.Ytbpfeppgonhclaa
open Go.ChangeShapes Go.WideShapes Go.ChangeAt Go.RowKit
set_option linter.unusedVariables false
set_option linter.unusedSimpArgs false
set_option maxRecDepth 100000
theorem aw1 (w : World) : Calls Try.prog 10 #[.agg #[.int .u8 16, .int .u8 0], .int .u8 16] w fun q_ w' => q_ = .returned (.tuple #[.agg #[.int .u8 16, .int .u8 16], .bool true]) ∧ Below w.heap.size w w' := press_c 16 0 (by decide) (by decide) (by decide) (by decide) 16 (by decide) (by decide) w
theorem aw2 (w : World) : Calls Try.prog 13 #[.agg #[.int .u8 16, .int .u8 16]] w fun q_ w' => q_ = .returned (.int .u8 222) ∧ Below w.heap.size w w' := read_c 16 16 (by decide) (by decide) (by decide) (by decide) w
set_option maxHeartbeats 2000000 in
theorem awake_c (w : World) : Calls Try.prog 9 #[] w fun q_ w' => q_ = .returned (.bool true) ∧ Below w.heap.size w w' := by
  suffices hall : ∀ (n_ : Nat) (W0 : World), n_ ≤ W0.heap.size → Below n_ W0 w → Calls Try.prog 9 #[] w fun q_ w' => q_ = .returned (.bool true) ∧ Below n_ W0 w' from hall _ _ (Nat.le_refl _) (Below.refl _ _)
  intro n_ W0 hn hB
  have HN := Lib.hid hn
  have BB := Lib.hid hB
  clear hn hB
  have A1 := Lib.hid aw1
  have A2 := Lib.hid aw2
  go_enter Try.func9, Try.ntmps9
  go_wp2_with fail
  with_reducible refine (A1.out _).mono ?_
  rintro q_ w1 ⟨rfl, hb⟩
  have B1 := Lib.hid (vian HN.out BB.out hb)
  clear hb 
  have Q_ := own1 w1 (.cells #[.int .u8 16, .int .u8 16] 26)
  have B2 := Lib.hid (vian HN.out B1.out Q_)
  have P2 := Lib.hid (Has.new w1 #[.int .u8 16, .int .u8 16] 26)
  have LP := Lib.hid (show n_ ≤ w1.heap.size from Nat.le_trans HN.out B1.out.size)
  clear Q_
  go_upto_region 2 with (fail)
  generalize w1.alloc (.cells #[.int .u8 16, .int .u8 16] 26) = w2 at B2 P2 ⊢
  generalize w1.heap.size = pb at P2 LP ⊢
  clear B1 
  obtain ⟨hc0, hf0⟩ := P2.out.out
  go_wp2_with fail
  with_reducible refine (A2.out _).mono ?_
  rintro q_ w3 ⟨rfl, hb⟩
  clear hc0 hf0
  have B3 := Lib.hid (vian HN.out B2.out hb)
  clear hb B2
  go_wp2
  go_ret
  exact ⟨rfl, B3.out⟩
end Go.Proofs.Ytbpfeppgonhclaa
