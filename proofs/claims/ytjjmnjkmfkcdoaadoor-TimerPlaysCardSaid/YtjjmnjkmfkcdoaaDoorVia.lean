/-
  A step of a walk that carries on what is known; for every world; no condition.
-/
import Derived.Test.YtjjmnjkmfkcdoaaDoorSg
import Derived.Test.YtjjmnjkmfkcdoaaDoorRd
import Derived.Deep.Cut
namespace Go.Proofs.YtjjmnjkmfkcdoaaDoor
open Go.ChangeShapes Go.WideShapes Go.ChangeAt Go.RowKit
set_option linter.unusedVariables false
set_option linter.unusedSimpArgs false
set_option maxRecDepth 100000
theorem store1 {n : Nat} {W0 W : World} (h : Below n W0 W) {b : Nat} (hb : n ≤ b) (o : Nat) (v : Value) : Below n W0 (W.setCell ⟨b, o, none⟩ v) := h.setCell hb v
end Go.Proofs.YtjjmnjkmfkcdoaaDoor
