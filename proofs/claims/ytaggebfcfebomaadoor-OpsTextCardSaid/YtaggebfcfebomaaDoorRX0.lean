/-
  What stays while the document's Text calls: for every world; no condition.
-/
import Derived.Test.YtaggebfcfebomaaDoorWhen
namespace Go.Proofs.YtaggebfcfebomaaDoor
open Go.ChangeShapes Go.WideShapes Go.ChangeAt Go.RowKit
set_option linter.unusedVariables false

theorem rhex2 (n : Nat) (hn : n < 65536) (w : World) : Calls Tryd.prog 24 #[.int .u16 n, .int .i64 2] w fun e w' => e = .returned (.string ⟨(hexs n 2).toArray⟩) ∧ Below w.heap.size w w' := rhex_c n 2 hn (by decide) w
theorem rhex4 (n : Nat) (hn : n < 65536) (w : World) : Calls Tryd.prog 24 #[.int .u16 n, .int .i64 4] w fun e w' => e = .returned (.string ⟨(hexs n 4).toArray⟩) ∧ Below w.heap.size w w' := rhex_c n 4 hn (by decide) w
/-- What stays while the document's Text calls. -/
def QR (w0 w : World) : Prop := Below w0.heap.size w0 w ∧ w0.heap.size < w.heap.size
theorem QS.below {w0 W w2 : World} {A : Array Value} (h : (∀ o, W.cell? ⟨w0.heap.size, o, none⟩ = A[o]?) ∧ QR w0 W) (hb : Below W.heap.size W w2) :
    (∀ o, w2.cell? ⟨w0.heap.size, o, none⟩ = A[o]?) ∧ QR w0 w2 := by
  obtain ⟨hc, _⟩ := bcell hb
  exact ⟨fun o => (hc _ o h.2.2).trans (h.1 o), via h.2.1 hb, Nat.lt_of_lt_of_le h.2.2 hb.size⟩
theorem QS.drew {w0 W : World} {A : Array Value} (h : (∀ o, W.cell? ⟨w0.heap.size, o, none⟩ = A[o]?) ∧ QR w0 W) : (∀ o, W.drew.cell? ⟨w0.heap.size, o, none⟩ = A[o]?) ∧ QR w0 W.drew := QS.below h (Below.refl _ _).drew
theorem QS.new (w0 : World) (A : Array Value) (t : TypeId) : (∀ o, (w0.alloc (.cells A t)).drew.cell? ⟨w0.heap.size, o, none⟩ = A[o]?) ∧ QR w0 (w0.alloc (.cells A t)).drew :=
  ⟨(Has.new w0 A t).drew.2.1, (own1 w0 _).drew, by simp⟩
end Go.Proofs.YtaggebfcfebomaaDoor
