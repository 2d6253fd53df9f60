/-
  Steps of a walk that carry what is known on; for every world; no condition.
-/
import Derived.Test.YtkpjoongbckhcaaFc
import Derived.Deep.Cut
namespace Go.Proofs.Ytkpjoongbckhcaa
open Go.ChangeShapes Go.WideShapes Go.ChangeAt Go.RowKit
set_option linter.unusedVariables false
set_option linter.unusedSimpArgs false
set_option maxRecDepth 100000
theorem vian {n : Nat} {W0 W w1 : World} (hn : n ≤ W0.heap.size) (h1 : Below n W0 W) (h2 : Below W.heap.size W w1) : Below n W0 w1 := h1.trans (h2.mono (Nat.le_trans hn h1.size))
theorem store1 {n : Nat} {W0 W : World} (h : Below n W0 W) {b : Nat} (hb : n ≤ b) (o : Nat) (v : Value) : Below n W0 (W.setCell ⟨b, o, none⟩ v) := h.setCell hb v
end Go.Proofs.Ytkpjoongbckhcaa
