/-
  What comes in: a processor's state by value is ten numbers, each of which fits its kind, and four truths; no condition.
-/
import Derived.Test.YtngdogldgcgnjaaGreatPure
import Derived.Deep.Fields
namespace Go.Proofs.YtngdogldgcgnjaaGreat
open Go.ChangeShapes Go.WideShapes Go.ChangeAt Go.RowKit Go.Deep
set_option linter.unusedSimpArgs false
theorem cells26 : Tryz.prog.cellsOf 26 = 14 := by kernel_rfl
theorem cells24 : Tryz.prog.cellsOf 24 = 10 := by kernel_rfl
theorem cells5 : Tryz.prog.cellsOf 5 = 1 := by kernel_rfl
theorem cells4 : Tryz.prog.cellsOf 4 = 1 := by kernel_rfl
theorem cells22 : Tryz.prog.cellsOf 22 = 1 := by kernel_rfl
set_option maxRecDepth 20000 in
set_option maxHeartbeats 2000000 in
theorem open_st {H : Type} {enc : TypeId × Value → H} {W : World} {base : Nat} {v : Value} {d : DataW H} {p : List MemPlace}
    (hv : Value.okWide Tryz.prog W .any base 26 v) (h : DataW.Trod enc Tryz.prog W 0 (fun _ => true) true 26 v d p) :
    ∃ s : St, s.r.ok ∧ v = .agg #[.int .u8 s.r.a, .int .u8 s.r.f, .int .u8 s.r.b, .int .u8 s.r.c, .int .u8 s.r.d, .int .u8 s.r.e, .int .u8 s.r.h, .int .u8 s.r.l, .int .u16 s.r.sp, .int .u16 s.r.pc, .bool s.ime, .bool s.soon, .bool s.halt, .bool s.stop] := by
  obtain ⟨cs, rfl, hsz⟩ := okWide_struct Tryz.underlying26 hv
  obtain ⟨fuel, hf⟩ := h
  obtain ⟨xs, n, _, _, _, hlen, hg⟩ := DataW.trod_struct Tryz.underlying26 hf
  rw [cells26] at hsz
  have hx : ∀ i, i < 5 → ∃ y, xs[i]? = some y := fun i hi => ⟨xs[i]'(by rw [hlen]; exact hi), List.getElem?_eq_getElem _⟩
  obtain ⟨l⟩ := cs
  match l, hsz with
  | [c0, c1, c2, c3, c4, c5, c6, c7, c8, c9, c10, c11, c12, c13], _ =>
    obtain ⟨yr, hyr⟩ := hx 0 (by decide)
    have gr := (hg 0 _ rfl).trans hyr
    simp [Value.cells, cells24] at gr
    obtain ⟨zs, n', _, _, _, hlen2, hg2⟩ := DataW.trod_struct Tryz.underlying24 gr
    have hz : ∀ i, i < 10 → ∃ y, zs[i]? = some y := fun i hi => ⟨zs[i]'(by rw [hlen2]; exact hi), List.getElem?_eq_getElem _⟩
    obtain ⟨y0, hy0⟩ := hz 0 (by decide)
    have g0 := (hg2 0 _ rfl).trans hy0
    simp [Value.cells, cells5] at g0
    obtain ⟨n0, e0, _, w0⟩ := DataW.trod_int Tryz.underlying5 g0
    obtain rfl : c0 = .int .u8 n0 := by simpa using e0
    obtain ⟨y1, hy1⟩ := hz 1 (by decide)
    have g1 := (hg2 1 _ rfl).trans hy1
    simp [Value.cells, cells5] at g1
    obtain ⟨n1, e1, _, w1⟩ := DataW.trod_int Tryz.underlying5 g1
    obtain rfl : c1 = .int .u8 n1 := by simpa using e1
    obtain ⟨y2, hy2⟩ := hz 2 (by decide)
    have g2 := (hg2 2 _ rfl).trans hy2
    simp [Value.cells, cells5] at g2
    obtain ⟨n2, e2, _, w2⟩ := DataW.trod_int Tryz.underlying5 g2
    obtain rfl : c2 = .int .u8 n2 := by simpa using e2
    obtain ⟨y3, hy3⟩ := hz 3 (by decide)
    have g3 := (hg2 3 _ rfl).trans hy3
    simp [Value.cells, cells5] at g3
    obtain ⟨n3, e3, _, w3⟩ := DataW.trod_int Tryz.underlying5 g3
    obtain rfl : c3 = .int .u8 n3 := by simpa using e3
    obtain ⟨y4, hy4⟩ := hz 4 (by decide)
    have g4 := (hg2 4 _ rfl).trans hy4
    simp [Value.cells, cells5] at g4
    obtain ⟨n4, e4, _, w4⟩ := DataW.trod_int Tryz.underlying5 g4
    obtain rfl : c4 = .int .u8 n4 := by simpa using e4
    obtain ⟨y5, hy5⟩ := hz 5 (by decide)
    have g5 := (hg2 5 _ rfl).trans hy5
    simp [Value.cells, cells5] at g5
    obtain ⟨n5, e5, _, w5⟩ := DataW.trod_int Tryz.underlying5 g5
    obtain rfl : c5 = .int .u8 n5 := by simpa using e5
    obtain ⟨y6, hy6⟩ := hz 6 (by decide)
    have g6 := (hg2 6 _ rfl).trans hy6
    simp [Value.cells, cells5] at g6
    obtain ⟨n6, e6, _, w6⟩ := DataW.trod_int Tryz.underlying5 g6
    obtain rfl : c6 = .int .u8 n6 := by simpa using e6
    obtain ⟨y7, hy7⟩ := hz 7 (by decide)
    have g7 := (hg2 7 _ rfl).trans hy7
    simp [Value.cells, cells5] at g7
    obtain ⟨n7, e7, _, w7⟩ := DataW.trod_int Tryz.underlying5 g7
    obtain rfl : c7 = .int .u8 n7 := by simpa using e7
    obtain ⟨y8, hy8⟩ := hz 8 (by decide)
    have g8 := (hg2 8 _ rfl).trans hy8
    simp [Value.cells, cells22] at g8
    obtain ⟨n8, e8, _, w8⟩ := DataW.trod_int Tryz.underlying22 g8
    obtain rfl : c8 = .int .u16 n8 := by simpa using e8
    obtain ⟨y9, hy9⟩ := hz 9 (by decide)
    have g9 := (hg2 9 _ rfl).trans hy9
    simp [Value.cells, cells22] at g9
    obtain ⟨n9, e9, _, w9⟩ := DataW.trod_int Tryz.underlying22 g9
    obtain rfl : c9 = .int .u16 n9 := by simpa using e9
    obtain ⟨y10, hy10⟩ := hx 1 (by decide)
    have g10 := (hg 1 _ rfl).trans hy10
    simp [Value.cells, cells4] at g10
    obtain ⟨n10, e10, _⟩ := DataW.trod_bool Tryz.underlying4 g10
    obtain rfl : c10 = .bool n10 := by simpa using e10
    obtain ⟨y11, hy11⟩ := hx 2 (by decide)
    have g11 := (hg 2 _ rfl).trans hy11
    simp [Value.cells, cells4] at g11
    obtain ⟨n11, e11, _⟩ := DataW.trod_bool Tryz.underlying4 g11
    obtain rfl : c11 = .bool n11 := by simpa using e11
    obtain ⟨y12, hy12⟩ := hx 3 (by decide)
    have g12 := (hg 3 _ rfl).trans hy12
    simp [Value.cells, cells4] at g12
    obtain ⟨n12, e12, _⟩ := DataW.trod_bool Tryz.underlying4 g12
    obtain rfl : c12 = .bool n12 := by simpa using e12
    obtain ⟨y13, hy13⟩ := hx 4 (by decide)
    have g13 := (hg 4 _ rfl).trans hy13
    simp [Value.cells, cells4] at g13
    obtain ⟨n13, e13, _⟩ := DataW.trod_bool Tryz.underlying4 g13
    obtain rfl : c13 = .bool n13 := by simpa using e13
    exact ⟨⟨⟨n0, n1, n2, n3, n4, n5, n6, n7, n8, n9⟩, n10, n11, n12, n13⟩, ⟨u8_bd w0, u8_bd w1, u8_bd w2, u8_bd w3, u8_bd w4, u8_bd w5, u8_bd w6, u8_bd w7, u16_bd w8, u16_bd w9⟩, rfl⟩
end Go.Proofs.YtngdogldgcgnjaaGreat
