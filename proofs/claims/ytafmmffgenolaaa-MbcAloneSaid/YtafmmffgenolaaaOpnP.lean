/-
  What comes in: a write by value; no condition but that each number fits.
-/
import Derived.Test.YtafmmffgenolaaaLaw0
import Derived.Deep.Fields
namespace Go.Proofs.Ytafmmffgenolaaa
open Go.ChangeShapes Go.WideShapes Go.ChangeAt Go.RowKit
set_option linter.unusedVariables false
set_option linter.unusedSimpArgs false
set_option maxRecDepth 100000
theorem open_poke {H : Type} {enc : TypeId × Value → H} {W : World} {base : Nat} {v : Value} {d : DataW H} {p : List MemPlace}
    (hv : Value.okWide Try.prog W .any base 37 v) (h : DataW.Trod enc Try.prog W 0 (fun _ => true) true 37 v d p) :
    ∃ pa px : Int, 0 ≤ pa ∧ pa < 65536 ∧ 0 ≤ px ∧ px < 256 ∧ v = .agg #[.int .u16 pa, .int .u8 px] := by
  obtain ⟨cs, rfl, hsz⟩ := okWide_struct Try.underlying37 hv
  obtain ⟨fuel, hf⟩ := h
  obtain ⟨xs, n, _, _, _, hlen, hg⟩ := DataW.trod_struct Try.underlying37 hf
  rw [cells37] at hsz
  have hx : ∀ i, i < 2 → ∃ y, xs[i]? = some y := fun i hi => ⟨xs[i]'(by rw [hlen]; exact hi), List.getElem?_eq_getElem _⟩
  obtain ⟨l⟩ := cs
  match l, hsz with
  | [c0, c1], _ =>
    obtain ⟨y0, hy0⟩ := hx 0 (by decide)
    have g0 := (hg 0 _ rfl).trans hy0
    simp [Value.cells, cells23] at g0
    obtain ⟨n0, e0, _, w0⟩ := DataW.trod_int Try.underlying23 g0
    obtain rfl : c0 = .int .u16 n0 := by simpa using e0
    obtain ⟨y1, hy1⟩ := hx 1 (by decide)
    have g1 := (hg 1 _ rfl).trans hy1
    simp [Value.cells, cells5, cells23] at g1
    obtain ⟨n1, e1, _, w1⟩ := DataW.trod_int Try.underlying5 g1
    obtain rfl : c1 = .int .u8 n1 := by simpa using e1
    exact ⟨n0, n1, (u16_bd w0).1, (u16_bd w0).2, (u8_bd w1).1, (u8_bd w1).2, rfl⟩
end Go.Proofs.Ytafmmffgenolaaa
