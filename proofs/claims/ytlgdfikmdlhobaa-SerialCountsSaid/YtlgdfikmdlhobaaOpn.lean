/-
  What comes in: a port, calls, bytes; no condition but that each number fits.
-/
import Derived.Test.YtlgdfikmdlhobaaAwk
import Derived.Deep.Fields
import Derived.Deep.Slices
namespace Go.Proofs.Ytlgdfikmdlhobaa
open Go.ChangeShapes Go.WideShapes Go.ChangeAt Go.RowKit
set_option linter.unusedVariables false
set_option linter.unusedSimpArgs false
set_option maxRecDepth 100000
theorem cells3 : Try.prog.cellsOf 3 = 1 := by kernel_rfl
theorem cells5 : Try.prog.cellsOf 5 = 1 := by kernel_rfl
theorem cells26 : Try.prog.cellsOf 26 = 6 := by kernel_rfl
theorem cells28 : Try.prog.cellsOf 28 = 3 := by kernel_rfl
def zf : Nat → Int := fun _ => 0
theorem open_port {H : Type} {enc : TypeId × Value → H} {W : World} {base : Nat} {v : Value} {d : DataW H} {p : List MemPlace}
    (hv : Value.okWide Try.prog W .any base 26 v) (h : DataW.Trod enc Try.prog W 0 (fun _ => true) true 26 v d p) :
    ∃ m : PV, (0 ≤ m.d ∧ m.d < 256) ∧ (0 ≤ m.c ∧ m.c < 256) ∧ (0 ≤ m.l ∧ m.l < 256) ∧ v = .agg #[.int .u8 m.d, .int .u8 m.c, .int .u8 m.l, .int .i64 m.b, .int .i64 m.n, .int .i64 m.s] := by
  obtain ⟨cs, rfl, hsz⟩ := okWide_struct Try.underlying26 hv
  obtain ⟨fuel, hf⟩ := h
  obtain ⟨xs, n, _, _, _, hlen, hg⟩ := DataW.trod_struct Try.underlying26 hf
  rw [cells26] at hsz
  have hx : ∀ i, i < 6 → ∃ y, xs[i]? = some y := fun i hi => ⟨xs[i]'(by rw [hlen]; exact hi), List.getElem?_eq_getElem _⟩
  obtain ⟨l⟩ := cs
  match l, hsz with
  | [c0, c1, c2, c3, c4, c5], _ =>
    obtain ⟨y0, hy0⟩ := hx 0 (by decide)
    have g0 := (hg 0 _ rfl).trans hy0
    simp [Value.cells, cells5, cells3] at g0
    obtain ⟨n0, e0, _, w0⟩ := DataW.trod_int Try.underlying5 g0
    obtain rfl : c0 = .int .u8 n0 := by simpa using e0
    obtain ⟨y1, hy1⟩ := hx 1 (by decide)
    have g1 := (hg 1 _ rfl).trans hy1
    simp [Value.cells, cells5, cells3] at g1
    obtain ⟨n1, e1, _, w1⟩ := DataW.trod_int Try.underlying5 g1
    obtain rfl : c1 = .int .u8 n1 := by simpa using e1
    obtain ⟨y2, hy2⟩ := hx 2 (by decide)
    have g2 := (hg 2 _ rfl).trans hy2
    simp [Value.cells, cells5, cells3] at g2
    obtain ⟨n2, e2, _, w2⟩ := DataW.trod_int Try.underlying5 g2
    obtain rfl : c2 = .int .u8 n2 := by simpa using e2
    obtain ⟨y3, hy3⟩ := hx 3 (by decide)
    have g3 := (hg 3 _ rfl).trans hy3
    simp [Value.cells, cells5, cells3] at g3
    obtain ⟨n3, e3, _, w3⟩ := DataW.trod_int Try.underlying3 g3
    obtain rfl : c3 = .int .i64 n3 := by simpa using e3
    obtain ⟨y4, hy4⟩ := hx 4 (by decide)
    have g4 := (hg 4 _ rfl).trans hy4
    simp [Value.cells, cells5, cells3] at g4
    obtain ⟨n4, e4, _, w4⟩ := DataW.trod_int Try.underlying3 g4
    obtain rfl : c4 = .int .i64 n4 := by simpa using e4
    obtain ⟨y5, hy5⟩ := hx 5 (by decide)
    have g5 := (hg 5 _ rfl).trans hy5
    simp [Value.cells, cells5, cells3] at g5
    obtain ⟨n5, e5, _, w5⟩ := DataW.trod_int Try.underlying3 g5
    obtain rfl : c5 = .int .i64 n5 := by simpa using e5
    exact ⟨⟨n0, n1, n2, n3, n4, n5⟩, u8_bd w0, u8_bd w1, u8_bd w2, rfl⟩
/-- v is a slice of calls that lies in memory. -/
def OpsIn (W : World) (v : Value) : Prop := ∃ (a : Option Addr) (n c : Nat), v = .slice a n c ∧ n ≤ 9223372036854775807 ∧ ∃ f g h : Nat → Int, (∀ i, 0 ≤ h i ∧ h i < 256) ∧ (0 < n → ∃ b o, a = some ⟨b, o, none⟩ ∧ b < W.heap.size ∧ ∀ j, j < n → W.cell? ⟨b, o + j * 3, none⟩ = some (.int .i64 (f j)) ∧ W.cell? ⟨b, o + j * 3 + 1, none⟩ = some (.int .i64 (g j)) ∧ W.cell? ⟨b, o + j * 3 + 2, none⟩ = some (.int .u8 (h j)))
open Go.Deep in
theorem open_ops {H : Type} {enc : TypeId × Value → H} {W : World} {base : Nat} {v : Value} {d : DataW H} {p : List MemPlace}
    (hv : Value.okWide Try.prog W .any base 22 v) (h : DataW.Trod enc Try.prog W 0 (fun _ => true) true 22 v d p) : OpsIn W v := by
  obtain ⟨a0, len, cap, rfl⟩ := okWide_slice Try.underlying22 hv
  obtain ⟨fuel, hf⟩ := h
  rcases open_slice Try.underlying22 hf with ⟨hcs, _⟩ | ⟨a, len', cap', m, n, D, Pl, hcs, _, hl, hm, hmm, _, hi⟩
  · simp [Value.cells] at hcs
    obtain ⟨rfl, rfl, rfl⟩ := hcs
    exact ⟨none, 0, 0, rfl, by omega, zf, zf, zf, fun _ => by simp [zf], fun h => absurd h (by omega)⟩
  · simp [Value.cells] at hcs
    obtain ⟨rfl, rfl, rfl⟩ := hcs
    simp at hmm
    unfold maxLen at hm
    rw [cells28] at hi
    have key : ∀ i, i < len → ∃ x y z : Int, (0 ≤ z ∧ z < 256) ∧ W.cell? ((a.add (i * 3)).add 0) = some (.int .i64 x) ∧ W.cell? ((a.add (i * 3)).add 1) = some (.int .i64 y) ∧ W.cell? ((a.add (i * 3)).add 2) = some (.int .u8 z) := by
      intro i hlt
      obtain ⟨cs, hc, ht⟩ := hi i (by omega)
      obtain ⟨_, hcl, hat⟩ := World.cells?_some hc
      obtain ⟨xs, m1, _, _, _, hlen, hg⟩ := DataW.trod_struct Try.underlying28 ht
      have hx : ∀ i, i < 3 → ∃ y, xs[i]? = some y := fun i hi => ⟨xs[i]'(by rw [hlen]; exact hi), List.getElem?_eq_getElem _⟩
      match cs, hcl with
      | [c0, c1, c2], _ =>
        obtain ⟨y0, hy0⟩ := hx 0 (by decide)
        obtain ⟨y1, hy1⟩ := hx 1 (by decide)
        obtain ⟨y2, hy2⟩ := hx 2 (by decide)
        have h0 := (hg 0 _ rfl).trans hy0
        have h1 := (hg 1 _ rfl).trans hy1
        have h2 := (hg 2 _ rfl).trans hy2
        simp [cells5, cells3] at h0 h1 h2
        obtain ⟨x, q0, _, w0⟩ := DataW.trod_int Try.underlying3 h0
        obtain ⟨y, q1, _, w1⟩ := DataW.trod_int Try.underlying3 h1
        obtain ⟨z, q2, _, w2⟩ := DataW.trod_int Try.underlying5 h2
        have r0 : c0 = .int .i64 x := by simpa using q0
        have r1 : c1 = .int .i64 y := by simpa using q1
        have r2 : c2 = .int .u8 z := by simpa using q2
        refine ⟨x, y, z, u8_bd w2, ?_, ?_, ?_⟩
        · rw [hat 0 (by decide)]; simp [r0]
        · rw [hat 1 (by decide)]; simp [r1]
        · rw [hat 2 (by decide)]; simp [r2]
    by_cases h0 : 0 < len
    · obtain ⟨b, off, spot⟩ := a
      obtain ⟨x, y, z, _, hx, _, _⟩ := key 0 h0
      have hspot : spot = none := by simpa [Addr.add] using World.cell?_spot hx
      subst hspot
      have ad : ∀ i k, ((⟨b, off, none⟩ : Addr).add i).add k = ⟨b, off + i + k, none⟩ := fun i k => by rw [Go.WideShapes.add_plain, Go.WideShapes.add_plain]
      have key2 : ∀ i : Nat, ∃ p : Int × Int × Int, (0 ≤ p.2.2 ∧ p.2.2 < 256) ∧ (i < len → W.cell? ⟨b, off + i * 3, none⟩ = some (.int .i64 p.1) ∧ W.cell? ⟨b, off + i * 3 + 1, none⟩ = some (.int .i64 p.2.1) ∧ W.cell? ⟨b, off + i * 3 + 2, none⟩ = some (.int .u8 p.2.2)) := by
        intro i
        by_cases hlt : i < len
        · obtain ⟨x, y, z, hz, cx, cy, cz⟩ := key i hlt
          rw [ad] at cx cy cz
          exact ⟨(x, y, z), hz, fun _ => ⟨cx, cy, cz⟩⟩
        · exact ⟨(0, 0, 0), by decide, fun h => absurd h hlt⟩
      obtain ⟨F, hF⟩ := Classical.axiomOfChoice key2
      rw [ad] at hx
      exact ⟨some ⟨b, off, none⟩, len, cap, rfl, by omega, fun i => (F i).1, fun i => (F i).2.1, fun i => (F i).2.2, fun i => (hF i).1, fun _ => ⟨b, off, rfl, World.block_lt_of_cell? W _ hx, fun j hj => (hF j).2 hj⟩⟩
    · have e : len = 0 := by omega
      subst e
      exact ⟨some a, 0, cap, rfl, by omega, zf, zf, zf, fun _ => by simp [zf], fun h => absurd h (by omega)⟩
/-- v is a slice of bytes that lies in memory. -/
def BytesIn (W : World) (v : Value) : Prop := ∃ (a : Option Addr) (n c : Nat), v = .slice a n c ∧ n ≤ 9223372036854775807 ∧ ∃ f : Nat → Int, (∀ i, 0 ≤ f i ∧ f i < 256) ∧ (0 < n → ∃ b o, a = some ⟨b, o, none⟩ ∧ b < W.heap.size ∧ ∀ j, j < n → W.cell? ⟨b, o + j, none⟩ = some (.int .u8 (f j)))
open Go.Deep in
theorem open_bytes {H : Type} {enc : TypeId × Value → H} {W : World} {base : Nat} {v : Value} {d : DataW H} {p : List MemPlace}
    (hv : Value.okWide Try.prog W .any base 41 v) (h : DataW.Trod enc Try.prog W 0 (fun _ => true) true 41 v d p) : BytesIn W v := by
  obtain ⟨a0, len, cap, rfl⟩ := okWide_slice Try.underlying41 hv
  obtain ⟨fuel, hf⟩ := h
  rcases open_ints Try.underlying41 Try.underlying5 cells5 hf with ⟨hcs, _⟩ | ⟨a, len', cap', zs, hcs, _, hl, hm, hz, _, hcell, hwz⟩
  · simp [Value.cells] at hcs
    obtain ⟨rfl, rfl, rfl⟩ := hcs
    exact ⟨none, 0, 0, rfl, by omega, zf, fun _ => by simp [zf], fun h => absurd h (by omega)⟩
  · simp [Value.cells] at hcs
    obtain ⟨rfl, rfl, rfl⟩ := hcs
    simp at hz
    unfold maxLen at hm
    have hw : ∀ i, 0 ≤ zs.getD i 0 ∧ zs.getD i 0 < 256 := fun i => by
      by_cases hi : i < zs.length
      · have e : zs.getD i 0 = zs[i] := by simp [hi]
        rw [e]
        exact u8_bd (hwz _ (List.getElem_mem hi))
      · have e : zs.getD i 0 = 0 := by simp [Nat.le_of_not_lt hi]
        rw [e]; decide
    refine ⟨some a, len, cap, rfl, by omega, fun j => zs.getD j 0, hw, fun h0 => ?_⟩
    obtain ⟨b, off, rfl, hc⟩ := ints_at hcell (by omega)
    exact ⟨b, off, rfl, World.block_lt_of_cell? W _ (hc 0 (by omega)), fun j hj => hc j (by omega)⟩
end Go.Proofs.Ytlgdfikmdlhobaa
