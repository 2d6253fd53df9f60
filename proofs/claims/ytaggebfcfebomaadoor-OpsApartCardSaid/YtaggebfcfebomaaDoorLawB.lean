/-
  What stays while a law asks its table: for every world; no condition.
-/
import Derived.Test.YtaggebfcfebomaaDoorAwake
namespace Go.Proofs.YtaggebfcfebomaaDoor
open Go.ChangeShapes Go.WideShapes Go.ChangeAt Go.RowKit
set_option linter.unusedVariables false

/-- What stays while a law asks its table. -/
def LR (tb ob : Nat) (w0 w : World) : Prop := TabAny w tb ∧ Below w0.heap.size w0 w ∧ ob < w.heap.size ∧ ob ≠ tb ∧ w0.heap.size ≤ tb
theorem LS.below {w0 W w2 : World} {tb ob : Nat} {A : Array Value} (h : (∀ o, W.cell? ⟨ob, o, none⟩ = A[o]?) ∧ LR tb ob w0 W) (hb : Below W.heap.size W w2) :
    (∀ o, w2.cell? ⟨ob, o, none⟩ = A[o]?) ∧ LR tb ob w0 w2 := by
  obtain ⟨hc, _⟩ := bcell hb
  obtain ⟨h0, h1, h2, h3, h4, h5⟩ := h
  exact ⟨fun o => (hc _ o h3).trans (h0 o), h1.imp (fun h => h.below hb) (fun h => h.below hb), via h2 hb, Nat.lt_of_lt_of_le h3 hb.size, h4, h5⟩
theorem LS.out {w0 W w2 : World} {tb ob : Nat} {A : Array Value} (h : (∀ o, W.cell? ⟨ob, o, none⟩ = A[o]?) ∧ LR tb ob w0 W) (hb : Out tb W w2) :
    (∀ o, w2.cell? ⟨ob, o, none⟩ = A[o]?) ∧ LR tb ob w0 w2 := by
  obtain ⟨h0, h1, h2, h3, h4, h5⟩ := h
  exact ⟨fun o => (hb.1.cell (p := ⟨ob, o, none⟩) h3 h4).trans (h0 o), Or.inr hb.2, h2.trans (hb.1.below h5 h2.size), Nat.lt_of_lt_of_le h3 hb.1.size, h4, h5⟩
theorem LS.drew {w0 W : World} {tb ob : Nat} {A : Array Value} (h : (∀ o, W.cell? ⟨ob, o, none⟩ = A[o]?) ∧ LR tb ob w0 W) :
    (∀ o, W.drew.cell? ⟨ob, o, none⟩ = A[o]?) ∧ LR tb ob w0 W.drew := LS.below h (Below.refl _ _).drew
/-- Behind awake, New, and the first Decode, whose answer lies in a new block. -/
theorem LS.start {w0 w1 V2 : World} (hb : Below w0.heap.size w0 w1) (hO : Out w1.heap.size (w1.alloc (.cells Tryd.zeroCells54 54)) V2) (A : Array Value) (t : TypeId) :
    (∀ o, (V2.alloc (.cells A t)).cell? ⟨V2.heap.size, o, none⟩ = A[o]?) ∧ LR w1.heap.size V2.heap.size w0 (V2.alloc (.cells A t)) := by
  have hs := hO.1.size
  simp at hs
  have h1 : Below w0.heap.size w0 V2 := (hb.alloc hb.size _).trans (hO.1.below hb.size (by have := hb.size; simp; omega))
  exact ⟨(Has.new V2 A t).2.1, Or.inr (hO.2.below (own1 _ _)), via h1 (own1 _ _), by simp, by omega, hb.size⟩
end Go.Proofs.YtaggebfcfebomaaDoor
