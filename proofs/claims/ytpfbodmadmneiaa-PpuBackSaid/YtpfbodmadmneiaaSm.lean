/-
  What makes up a row of numbers.
-/
import Derived.Test.YtpfbodmadmneiaaRdc
import Derived.Deep.Cut
import Derived.BigQuiet
import Derived.WalkSmall
import Derived.Deep.LoopGhost
namespace Go.Proofs.Ytpfbodmadmneiaa
open Go.ChangeShapes Go.WideShapes Go.ChangeAt Go.RowKit
set_option linter.unusedVariables false
set_option linter.unusedSimpArgs false
set_option maxRecDepth 100000
theorem rowG_mk {w : World} {a : Option Addr} {n c : Nat} {f : M} {g : Nat} (h : n ≤ c ∧ (0 < n → a = some ⟨g, 0, none⟩ ∧ g < w.heap.size ∧ (∀ j, j < n → w.cell? ⟨g, j, none⟩ = some (.int .i64 (f j))) ∧ ∀ j, w.frozen? ⟨g, j, none⟩ = false)) : RowG w (.slice a n c) n f g := ⟨a, c, rfl, h.1, h.2⟩
end Go.Proofs.Ytpfbodmadmneiaa
