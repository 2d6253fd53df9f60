/-
  What comes in: an order by value is five numbers, each of which fits its kind; no condition.
-/
import Derived.Test.YtaggebfcfebomaaDoorLeafD
import Derived.Test.YtaggebfcfebomaaDoorLaid
namespace Go.Proofs.YtaggebfcfebomaaDoor
open Go.ChangeShapes Go.WideShapes Go.ChangeAt Go.RowKit Go.Deep
set_option linter.unusedVariables false

theorem cells29 : Tryd.prog.cellsOf 29 = 5 := by kernel_rfl
theorem cells3 : Tryd.prog.cellsOf 3 = 1 := by kernel_rfl
theorem cells25 : Tryd.prog.cellsOf 25 = 1 := by kernel_rfl
set_option maxRecDepth 100000 in
theorem open_op {H : Type} {enc : TypeId × Value → H} {W : World} {base : Nat} {v : Value} {d : DataW H} {p : List MemPlace}
    (hv : Value.okWide Tryd.prog W .any base 29 v) (h : DataW.Trod enc Tryd.prog W 0 (fun _ => true) true 29 v d p) :
    ∃ r : OpV, (0 ≤ r.n ∧ r.n < 65536) ∧ v = .agg #[.int .i64 r.k, .int .i64 r.x, .int .i64 r.y, .int .i64 r.s, .int .u16 r.n] := by
  obtain ⟨cs, rfl, hsz⟩ := okWide_struct Tryd.underlying29 hv
  obtain ⟨fuel, hf⟩ := h
  obtain ⟨xs, n, _, _, _, hlen, hg⟩ := DataW.trod_struct Tryd.underlying29 hf
  rw [cells29] at hsz
  have hx : ∀ i, i < 5 → ∃ y, xs[i]? = some y := fun i hi => ⟨xs[i]'(by rw [hlen]; exact hi), List.getElem?_eq_getElem _⟩
  obtain ⟨l⟩ := cs
  match l, hsz with
  | [c0, c1, c2, c3, c4], _ =>
    obtain ⟨y0, hy0⟩ := hx 0 (by decide)
    have g0 := (hg 0 _ rfl).trans hy0
    simp [Value.cells, cells3] at g0
    obtain ⟨n0, e0, _, w0⟩ := DataW.trod_int Tryd.underlying3 g0
    obtain rfl : c0 = .int .i64 n0 := by simpa using e0
    obtain ⟨y1, hy1⟩ := hx 1 (by decide)
    have g1 := (hg 1 _ rfl).trans hy1
    simp [Value.cells, cells3] at g1
    obtain ⟨n1, e1, _, w1⟩ := DataW.trod_int Tryd.underlying3 g1
    obtain rfl : c1 = .int .i64 n1 := by simpa using e1
    obtain ⟨y2, hy2⟩ := hx 2 (by decide)
    have g2 := (hg 2 _ rfl).trans hy2
    simp [Value.cells, cells3] at g2
    obtain ⟨n2, e2, _, w2⟩ := DataW.trod_int Tryd.underlying3 g2
    obtain rfl : c2 = .int .i64 n2 := by simpa using e2
    obtain ⟨y3, hy3⟩ := hx 3 (by decide)
    have g3 := (hg 3 _ rfl).trans hy3
    simp [Value.cells, cells3] at g3
    obtain ⟨n3, e3, _, w3⟩ := DataW.trod_int Tryd.underlying3 g3
    obtain rfl : c3 = .int .i64 n3 := by simpa using e3
    obtain ⟨y4, hy4⟩ := hx 4 (by decide)
    have g4 := (hg 4 _ rfl).trans hy4
    simp [Value.cells, cells25] at g4
    obtain ⟨n4, e4, _, w4⟩ := DataW.trod_int Tryd.underlying25 g4
    obtain rfl : c4 = .int .u16 n4 := by simpa using e4
    exact ⟨⟨n0, n1, n2, n3, n4⟩, u16_bd w4, rfl⟩
end Go.Proofs.YtaggebfcfebomaaDoor
