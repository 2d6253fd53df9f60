/-
  What comes in: calls, and numbers; no condition but that each number fits.
-/
import Derived.Test.YtonmnpadmphbdaaDoorThen
import Derived.Deep.Fields
import Derived.Deep.Slices
namespace Go.Proofs.YtonmnpadmphbdaaDoor
open Go.ChangeShapes Go.WideShapes Go.ChangeAt Go.RowKit
set_option linter.unusedVariables false
set_option linter.unusedSimpArgs false
set_option maxRecDepth 100000
theorem cells2 : Tryd.prog.cellsOf 3 = 1 := by kernel_rfl
theorem cells5 : Tryd.prog.cellsOf 5 = 1 := by kernel_rfl
theorem cells32 : Tryd.prog.cellsOf 32 = 3 := by kernel_rfl
def zf : Nat → Int := fun _ => 0
/-- v is a slice of calls that lies in memory. -/
def OpsIn (W : World) (v : Value) : Prop := ∃ (a : Option Addr) (n c : Nat), v = .slice a n c ∧ n ≤ 9223372036854775807 ∧ ∃ f g h : Nat → Int, (∀ i, 0 ≤ h i ∧ h i < 256) ∧ (0 < n → ∃ b o, a = some ⟨b, o, none⟩ ∧ b < W.heap.size ∧ ∀ j, j < n → W.cell? ⟨b, o + j * 3, none⟩ = some (.int .i64 (f j)) ∧ W.cell? ⟨b, o + j * 3 + 1, none⟩ = some (.int .i64 (g j)) ∧ W.cell? ⟨b, o + j * 3 + 2, none⟩ = some (.int .u8 (h j)))
open Go.Deep in
theorem open_ops {H : Type} {enc : TypeId × Value → H} {W : World} {base : Nat} {v : Value} {d : DataW H} {p : List MemPlace}
    (hv : Value.okWide Tryd.prog W .any base 22 v) (h : DataW.Trod enc Tryd.prog W 0 (fun _ => true) true 22 v d p) : OpsIn W v := by
  obtain ⟨a0, len, cap, rfl⟩ := okWide_slice Tryd.underlying22 hv
  obtain ⟨fuel, hf⟩ := h
  rcases open_slice Tryd.underlying22 hf with ⟨hcs, _⟩ | ⟨a, len', cap', m, n, D, Pl, hcs, _, hl, hm, hmm, _, hi⟩
  · simp [Value.cells] at hcs
    obtain ⟨rfl, rfl, rfl⟩ := hcs
    exact ⟨none, 0, 0, rfl, by omega, zf, zf, zf, fun _ => by simp [zf], fun h => absurd h (by omega)⟩
  · simp [Value.cells] at hcs
    obtain ⟨rfl, rfl, rfl⟩ := hcs
    simp at hmm
    unfold maxLen at hm
    rw [cells32] at hi
    have key : ∀ i, i < len → ∃ x y z : Int, (0 ≤ z ∧ z < 256) ∧ W.cell? ((a.add (i * 3)).add 0) = some (.int .i64 x) ∧ W.cell? ((a.add (i * 3)).add 1) = some (.int .i64 y) ∧ W.cell? ((a.add (i * 3)).add 2) = some (.int .u8 z) := by
      intro i hlt
      obtain ⟨cs, hc, ht⟩ := hi i (by omega)
      obtain ⟨_, hcl, hat⟩ := World.cells?_some hc
      obtain ⟨xs, m1, _, _, _, hlen, hg⟩ := DataW.trod_struct Tryd.underlying32 ht
      have hx : ∀ i, i < 3 → ∃ y, xs[i]? = some y := fun i hi => ⟨xs[i]'(by rw [hlen]; exact hi), List.getElem?_eq_getElem _⟩
      match cs, hcl with
      | [c0, c1, c2], _ =>
        obtain ⟨y0, hy0⟩ := hx 0 (by decide)
        obtain ⟨y1, hy1⟩ := hx 1 (by decide)
        obtain ⟨y2, hy2⟩ := hx 2 (by decide)
        have h0 := (hg 0 _ rfl).trans hy0
        have h1 := (hg 1 _ rfl).trans hy1
        have h2 := (hg 2 _ rfl).trans hy2
        simp [cells5, cells2] at h0 h1 h2
        obtain ⟨x, q0, _, w0⟩ := DataW.trod_int Tryd.underlying3 h0
        obtain ⟨y, q1, _, w1⟩ := DataW.trod_int Tryd.underlying3 h1
        obtain ⟨z, q2, _, w2⟩ := DataW.trod_int Tryd.underlying5 h2
        have r0 : c0 = .int .i64 x := by simpa using q0
        have r1 : c1 = .int .i64 y := by simpa using q1
        have r2 : c2 = .int .u8 z := by simpa using q2
        refine ⟨x, y, z, u8_bd w2, ?_, ?_, ?_⟩
        · rw [hat 0 (by decide)]; simp [r0]
        · rw [hat 1 (by decide)]; simp [r1]
        · rw [hat 2 (by decide)]; simp [r2]
    by_cases h0 : 0 < len
    · obtain ⟨b, off, spot⟩ := a
      obtain ⟨x, y, z, _, hx, _, _⟩ := key 0 h0
      have hspot : spot = none := by simpa [Addr.add] using World.cell?_spot hx
      subst hspot
      have ad : ∀ i k, ((⟨b, off, none⟩ : Addr).add i).add k = ⟨b, off + i + k, none⟩ := fun i k => by rw [Go.WideShapes.add_plain, Go.WideShapes.add_plain]
      have key2 : ∀ i : Nat, ∃ p : Int × Int × Int, (0 ≤ p.2.2 ∧ p.2.2 < 256) ∧ (i < len → W.cell? ⟨b, off + i * 3, none⟩ = some (.int .i64 p.1) ∧ W.cell? ⟨b, off + i * 3 + 1, none⟩ = some (.int .i64 p.2.1) ∧ W.cell? ⟨b, off + i * 3 + 2, none⟩ = some (.int .u8 p.2.2)) := by
        intro i
        by_cases hlt : i < len
        · obtain ⟨x, y, z, hz, cx, cy, cz⟩ := key i hlt
          rw [ad] at cx cy cz
          exact ⟨(x, y, z), hz, fun _ => ⟨cx, cy, cz⟩⟩
        · exact ⟨(0, 0, 0), by decide, fun h => absurd h hlt⟩
      obtain ⟨F, hF⟩ := Classical.axiomOfChoice key2
      rw [ad] at hx
      exact ⟨some ⟨b, off, none⟩, len, cap, rfl, by omega, fun i => (F i).1, fun i => (F i).2.1, fun i => (F i).2.2, fun i => (hF i).1, fun _ => ⟨b, off, rfl, World.block_lt_of_cell? W _ hx, fun j hj => (hF j).2 hj⟩⟩
    · have e : len = 0 := by omega
      subst e
      exact ⟨some a, 0, cap, rfl, by omega, zf, zf, zf, fun _ => by simp [zf], fun h => absurd h (by omega)⟩
end Go.Proofs.YtonmnpadmphbdaaDoor
