/-
  What comes in: a set of registers by value is ten numbers, each of which fits its kind; bounds of kinds; no condition.
-/
import Derived.Test.YtiolfmmekcahaaaBase
import Derived.Deep.Fields
namespace Go.Proofs.Ytiolfmmekcahaaa
open Go.ChangeShapes Go.WideShapes Go.ChangeAt Go.RowKit Go.Deep

theorem u8_bd {a : Int} (h : (Lit.int .u8 a).wf = true) : 0 ≤ a ∧ a < 256 := by
  simp [Lit.wf, IntKind.min, IntKind.max, IntKind.bits, IntKind.signed] at h; omega
theorem u16_bd {a : Int} (h : (Lit.int .u16 a).wf = true) : 0 ≤ a ∧ a < 65536 := by
  simp [Lit.wf, IntKind.min, IntKind.max, IntKind.bits, IntKind.signed] at h; omega
theorem i64_bd {a : Int} (h : (Lit.int .i64 a).wf = true) : -9223372036854775808 ≤ a ∧ a ≤ 9223372036854775807 := by
  simp [Lit.wf, IntKind.min, IntKind.max, IntKind.bits, IntKind.signed] at h; omega
theorem own : ownKnob Try.prog.godebug = none := by kernel_rfl
theorem laidOut : laidOutB Try.prog = true := by kernel_rfl

theorem cells24 : Try.prog.cellsOf 24 = 10 := by kernel_rfl
theorem cells5 : Try.prog.cellsOf 5 = 1 := by kernel_rfl
theorem cells22 : Try.prog.cellsOf 22 = 1 := by kernel_rfl

theorem open_rr {H : Type} {enc : TypeId × Value → H} {W : World} {base : Nat} {v : Value} {d : DataW H} {p : List MemPlace}
    (hv : Value.okWide Try.prog W .any base 24 v) (h : DataW.Trod enc Try.prog W 0 (fun _ => true) true 24 v d p) :
    ∃ r : RR, r.ok ∧ v = .agg #[.int .u8 r.a, .int .u8 r.f, .int .u8 r.b, .int .u8 r.c, .int .u8 r.d, .int .u8 r.e, .int .u8 r.h, .int .u8 r.l, .int .u16 r.sp, .int .u16 r.pc] := by
  obtain ⟨cs, rfl, hsz⟩ := okWide_struct Try.underlying24 hv
  obtain ⟨fuel, hf⟩ := h
  obtain ⟨xs, n, _, _, _, hlen, hg⟩ := DataW.trod_struct Try.underlying24 hf
  rw [cells24] at hsz
  have hx : ∀ i, i < 10 → ∃ y, xs[i]? = some y := fun i hi => ⟨xs[i]'(by rw [hlen]; exact hi), List.getElem?_eq_getElem _⟩
  obtain ⟨l⟩ := cs
  match l, hsz with
  | [c0, c1, c2, c3, c4, c5, c6, c7, c8, c9], _ =>
    obtain ⟨y0, hy0⟩ := hx 0 (by decide)
    have g0 := (hg 0 _ rfl).trans hy0
    simp [Value.cells, cells5] at g0
    obtain ⟨n0, e0, _, w0⟩ := DataW.trod_int Try.underlying5 g0
    obtain rfl : c0 = .int .u8 n0 := by simpa using e0
    obtain ⟨y1, hy1⟩ := hx 1 (by decide)
    have g1 := (hg 1 _ rfl).trans hy1
    simp [Value.cells, cells5] at g1
    obtain ⟨n1, e1, _, w1⟩ := DataW.trod_int Try.underlying5 g1
    obtain rfl : c1 = .int .u8 n1 := by simpa using e1
    obtain ⟨y2, hy2⟩ := hx 2 (by decide)
    have g2 := (hg 2 _ rfl).trans hy2
    simp [Value.cells, cells5] at g2
    obtain ⟨n2, e2, _, w2⟩ := DataW.trod_int Try.underlying5 g2
    obtain rfl : c2 = .int .u8 n2 := by simpa using e2
    obtain ⟨y3, hy3⟩ := hx 3 (by decide)
    have g3 := (hg 3 _ rfl).trans hy3
    simp [Value.cells, cells5] at g3
    obtain ⟨n3, e3, _, w3⟩ := DataW.trod_int Try.underlying5 g3
    obtain rfl : c3 = .int .u8 n3 := by simpa using e3
    obtain ⟨y4, hy4⟩ := hx 4 (by decide)
    have g4 := (hg 4 _ rfl).trans hy4
    simp [Value.cells, cells5] at g4
    obtain ⟨n4, e4, _, w4⟩ := DataW.trod_int Try.underlying5 g4
    obtain rfl : c4 = .int .u8 n4 := by simpa using e4
    obtain ⟨y5, hy5⟩ := hx 5 (by decide)
    have g5 := (hg 5 _ rfl).trans hy5
    simp [Value.cells, cells5] at g5
    obtain ⟨n5, e5, _, w5⟩ := DataW.trod_int Try.underlying5 g5
    obtain rfl : c5 = .int .u8 n5 := by simpa using e5
    obtain ⟨y6, hy6⟩ := hx 6 (by decide)
    have g6 := (hg 6 _ rfl).trans hy6
    simp [Value.cells, cells5] at g6
    obtain ⟨n6, e6, _, w6⟩ := DataW.trod_int Try.underlying5 g6
    obtain rfl : c6 = .int .u8 n6 := by simpa using e6
    obtain ⟨y7, hy7⟩ := hx 7 (by decide)
    have g7 := (hg 7 _ rfl).trans hy7
    simp [Value.cells, cells5] at g7
    obtain ⟨n7, e7, _, w7⟩ := DataW.trod_int Try.underlying5 g7
    obtain rfl : c7 = .int .u8 n7 := by simpa using e7
    obtain ⟨y8, hy8⟩ := hx 8 (by decide)
    have g8 := (hg 8 _ rfl).trans hy8
    simp [Value.cells, cells22] at g8
    obtain ⟨n8, e8, _, w8⟩ := DataW.trod_int Try.underlying22 g8
    obtain rfl : c8 = .int .u16 n8 := by simpa using e8
    obtain ⟨y9, hy9⟩ := hx 9 (by decide)
    have g9 := (hg 9 _ rfl).trans hy9
    simp [Value.cells, cells22] at g9
    obtain ⟨n9, e9, _, w9⟩ := DataW.trod_int Try.underlying22 g9
    obtain rfl : c9 = .int .u16 n9 := by simpa using e9
    exact ⟨⟨n0, n1, n2, n3, n4, n5, n6, n7, n8, n9⟩, ⟨u8_bd w0, u8_bd w1, u8_bd w2, u8_bd w3, u8_bd w4, u8_bd w5, u8_bd w6, u8_bd w7, u16_bd w8, u16_bd w9⟩, rfl⟩
end Go.Proofs.Ytiolfmmekcahaaa
