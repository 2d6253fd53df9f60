/-
  What comes in: a joypad, bytes, changes; no condition but that each number fits.
-/
import Derived.Test.YtbpfeppgonhclaaBase
import Derived.Deep.Fields
import Derived.Deep.Slices
namespace Go.Proofs.Ytbpfeppgonhclaa
open Go.ChangeShapes Go.WideShapes Go.ChangeAt Go.RowKit
set_option linter.unusedVariables false
set_option linter.unusedSimpArgs false
set_option maxRecDepth 100000
theorem u64_bd {a : Int} (h : (Lit.int .u64 a).wf = true) : 0 ≤ a ∧ a < 18446744073709551616 := by
  simp [Lit.wf, IntKind.min, IntKind.max, IntKind.bits, IntKind.signed] at h; omega
theorem cells5 : Try.prog.cellsOf 5 = 1 := by kernel_rfl
theorem cells23 : Try.prog.cellsOf 23 = 2 := by kernel_rfl
theorem cells37 : Try.prog.cellsOf 37 = 1 := by kernel_rfl
theorem cells42 : Try.prog.cellsOf 42 = 2 := by kernel_rfl
def zf : Nat → Int := fun _ => 0
/-- v is a slice of changes that lies in memory. -/
def ChIn (W : World) (v : Value) : Prop := ∃ (a : Option Addr) (n c : Nat), v = .slice a n c ∧ n ≤ 9223372036854775807 ∧ ∃ f g : Nat → Int, (∀ i, 0 ≤ f i ∧ f i < 18446744073709551616) ∧ (∀ i, 0 ≤ g i ∧ g i < 256) ∧ (0 < n → ∃ b o, a = some ⟨b, o, none⟩ ∧ b < W.heap.size ∧ ∀ j, j < n → W.cell? ⟨b, o + j * 2, none⟩ = some (.int .u64 (f j)) ∧ W.cell? ⟨b, o + j * 2 + 1, none⟩ = some (.int .u8 (g j)))
open Go.Deep in
theorem open_chs {H : Type} {enc : TypeId × Value → H} {W : World} {base : Nat} {v : Value} {d : DataW H} {p : List MemPlace}
    (hv : Value.okWide Try.prog W .any base 36 v) (h : DataW.Trod enc Try.prog W 0 (fun _ => true) true 36 v d p) : ChIn W v := by
  obtain ⟨a0, len, cap, rfl⟩ := okWide_slice Try.underlying36 hv
  obtain ⟨fuel, hf⟩ := h
  rcases open_slice Try.underlying36 hf with ⟨hcs, _⟩ | ⟨a, len', cap', m, n, D, Pl, hcs, _, hl, hm, hmm, _, hi⟩
  · simp [Value.cells] at hcs
    obtain ⟨rfl, rfl, rfl⟩ := hcs
    exact ⟨none, 0, 0, rfl, by omega, zf, zf, fun _ => by simp [zf], fun _ => by simp [zf], fun h => absurd h (by omega)⟩
  · simp [Value.cells] at hcs
    obtain ⟨rfl, rfl, rfl⟩ := hcs
    simp at hmm
    unfold maxLen at hm
    rw [cells42] at hi
    have key : ∀ i, i < len → ∃ x y : Int, (0 ≤ x ∧ x < 18446744073709551616) ∧ (0 ≤ y ∧ y < 256) ∧ W.cell? ((a.add (i * 2)).add 0) = some (.int .u64 x) ∧ W.cell? ((a.add (i * 2)).add 1) = some (.int .u8 y) := by
      intro i hlt
      obtain ⟨cs, hc, ht⟩ := hi i (by omega)
      obtain ⟨_, hcl, hat⟩ := World.cells?_some hc
      obtain ⟨xs, m1, _, _, _, hlen, hg⟩ := DataW.trod_struct Try.underlying42 ht
      have hx : ∀ i, i < 2 → ∃ y, xs[i]? = some y := fun i hi => ⟨xs[i]'(by rw [hlen]; exact hi), List.getElem?_eq_getElem _⟩
      match cs, hcl with
      | [c0, c1], _ =>
        obtain ⟨y0, hy0⟩ := hx 0 (by decide)
        obtain ⟨y1, hy1⟩ := hx 1 (by decide)
        have h0 := (hg 0 _ rfl).trans hy0
        have h1 := (hg 1 _ rfl).trans hy1
        simp [cells5, cells37] at h0 h1
        obtain ⟨x, q0, _, w0⟩ := DataW.trod_int Try.underlying37 h0
        obtain ⟨y, q1, _, w1⟩ := DataW.trod_int Try.underlying5 h1
        have r0 : c0 = .int .u64 x := by simpa using q0
        have r1 : c1 = .int .u8 y := by simpa using q1
        refine ⟨x, y, u64_bd w0, u8_bd w1, ?_, ?_⟩
        · rw [hat 0 (by decide)]; simp [r0]
        · rw [hat 1 (by decide)]; simp [r1]
    by_cases h0 : 0 < len
    · obtain ⟨b, off, spot⟩ := a
      obtain ⟨x, y, _, _, hx, _⟩ := key 0 h0
      have hspot : spot = none := by simpa [Addr.add] using World.cell?_spot hx
      subst hspot
      have ad : ∀ i k, ((⟨b, off, none⟩ : Addr).add i).add k = ⟨b, off + i + k, none⟩ := fun i k => by rw [Go.WideShapes.add_plain, Go.WideShapes.add_plain]
      have key2 : ∀ i : Nat, ∃ p : Int × Int, (0 ≤ p.1 ∧ p.1 < 18446744073709551616) ∧ (0 ≤ p.2 ∧ p.2 < 256) ∧ (i < len → W.cell? ⟨b, off + i * 2, none⟩ = some (.int .u64 p.1) ∧ W.cell? ⟨b, off + i * 2 + 1, none⟩ = some (.int .u8 p.2)) := by
        intro i
        by_cases hlt : i < len
        · obtain ⟨x, y, hx, hy, cx, cy⟩ := key i hlt
          rw [ad] at cx cy
          exact ⟨(x, y), hx, hy, fun _ => ⟨cx, cy⟩⟩
        · exact ⟨(0, 0), by decide, by decide, fun h => absurd h hlt⟩
      obtain ⟨F, hF⟩ := Classical.axiomOfChoice key2
      rw [ad] at hx
      exact ⟨some ⟨b, off, none⟩, len, cap, rfl, by omega, fun i => (F i).1, fun i => (F i).2, fun i => (hF i).1, fun i => (hF i).2.1, fun _ => ⟨b, off, rfl, World.block_lt_of_cell? W _ hx, fun j hj => (hF j).2.2 hj⟩⟩
    · have e : len = 0 := by omega
      subst e
      exact ⟨some a, 0, cap, rfl, by omega, zf, zf, fun _ => by simp [zf], fun _ => by simp [zf], fun h => absurd h (by omega)⟩
/-- v is a slice of bytes that lies in memory. -/
def BytesIn (W : World) (v : Value) : Prop := ∃ (a : Option Addr) (n c : Nat), v = .slice a n c ∧ n ≤ 9223372036854775807 ∧ ∃ f : Nat → Int, (∀ i, 0 ≤ f i ∧ f i < 256) ∧ (0 < n → ∃ b o, a = some ⟨b, o, none⟩ ∧ b < W.heap.size ∧ ∀ j, j < n → W.cell? ⟨b, o + j, none⟩ = some (.int .u8 (f j)))
open Go.Deep in
theorem open_bytes {H : Type} {enc : TypeId × Value → H} {W : World} {base : Nat} {v : Value} {d : DataW H} {p : List MemPlace}
    (hv : Value.okWide Try.prog W .any base 24 v) (h : DataW.Trod enc Try.prog W 0 (fun _ => true) true 24 v d p) : BytesIn W v := by
  obtain ⟨a0, len, cap, rfl⟩ := okWide_slice Try.underlying24 hv
  obtain ⟨fuel, hf⟩ := h
  rcases open_ints Try.underlying24 Try.underlying5 cells5 hf with ⟨hcs, _⟩ | ⟨a, len', cap', zs, hcs, _, hl, hm, hz, _, hcell, hwz⟩
  · simp [Value.cells] at hcs
    obtain ⟨rfl, rfl, rfl⟩ := hcs
    exact ⟨none, 0, 0, rfl, by omega, zf, fun _ => by simp [zf], fun h => absurd h (by omega)⟩
  · simp [Value.cells] at hcs
    obtain ⟨rfl, rfl, rfl⟩ := hcs
    simp at hz
    unfold maxLen at hm
    have hw : ∀ i, 0 ≤ zs.getD i 0 ∧ zs.getD i 0 < 256 := fun i => by
      by_cases hi : i < zs.length
      · have e : zs.getD i 0 = zs[i] := by simp [hi]
        rw [e]
        exact u8_bd (hwz _ (List.getElem_mem hi))
      · have e : zs.getD i 0 = 0 := by simp [Nat.le_of_not_lt hi]
        rw [e]; decide
    refine ⟨some a, len, cap, rfl, by omega, fun j => zs.getD j 0, hw, fun h0 => ?_⟩
    obtain ⟨b, off, rfl, hc⟩ := ints_at hcell (by omega)
    exact ⟨b, off, rfl, World.block_lt_of_cell? W _ (hc 0 (by omega)), fun j hj => hc j (by omega)⟩
theorem open_pad {H : Type} {enc : TypeId × Value → H} {W : World} {base : Nat} {v : Value} {d : DataW H} {p : List MemPlace}
    (hv : Value.okWide Try.prog W .any base 23 v) (h : DataW.Trod enc Try.prog W 0 (fun _ => true) true 23 v d p) :
    ∃ pa px : Int, 0 ≤ pa ∧ pa < 256 ∧ 0 ≤ px ∧ px < 256 ∧ v = .agg #[.int .u8 pa, .int .u8 px] := by
  obtain ⟨cs, rfl, hsz⟩ := okWide_struct Try.underlying23 hv
  obtain ⟨fuel, hf⟩ := h
  obtain ⟨xs, n, _, _, _, hlen, hg⟩ := DataW.trod_struct Try.underlying23 hf
  rw [cells23] at hsz
  have hx : ∀ i, i < 2 → ∃ y, xs[i]? = some y := fun i hi => ⟨xs[i]'(by rw [hlen]; exact hi), List.getElem?_eq_getElem _⟩
  obtain ⟨l⟩ := cs
  match l, hsz with
  | [c0, c1], _ =>
    obtain ⟨y0, hy0⟩ := hx 0 (by decide)
    have g0 := (hg 0 _ rfl).trans hy0
    simp [Value.cells, cells5] at g0
    obtain ⟨n0, e0, _, w0⟩ := DataW.trod_int Try.underlying5 g0
    obtain rfl : c0 = .int .u8 n0 := by simpa using e0
    obtain ⟨y1, hy1⟩ := hx 1 (by decide)
    have g1 := (hg 1 _ rfl).trans hy1
    simp [Value.cells, cells5] at g1
    obtain ⟨n1, e1, _, w1⟩ := DataW.trod_int Try.underlying5 g1
    obtain rfl : c1 = .int .u8 n1 := by simpa using e1
    exact ⟨n0, n1, (u8_bd w0).1, (u8_bd w0).2, (u8_bd w1).1, (u8_bd w1).2, rfl⟩
end Go.Proofs.Ytbpfeppgonhclaa
