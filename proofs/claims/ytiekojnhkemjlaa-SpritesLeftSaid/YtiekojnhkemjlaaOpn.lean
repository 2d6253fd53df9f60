/-
  What comes in: a slice of bytes, a view; no condition but that each number fits.
-/
import Derived.Test.YtiekojnhkemjlaaFill
import Derived.Deep.Fields
import Derived.Deep.Slices
namespace Go.Proofs.Ytiekojnhkemjlaa
open Go.ChangeShapes Go.WideShapes Go.ChangeAt Go.RowKit
set_option linter.unusedVariables false
set_option linter.unusedSimpArgs false
set_option maxRecDepth 100000
theorem cells5 : Try.prog.cellsOf 5 = 1 := by kernel_rfl
theorem cells24 : Try.prog.cellsOf 24 = 4 := by kernel_rfl
theorem open_look {H : Type} {enc : TypeId × Value → H} {W : World} {base : Nat} {v : Value} {d : DataW H} {p : List MemPlace}
    (hv : Value.okWide Try.prog W .any base 24 v) (h : DataW.Trod enc Try.prog W 0 (fun _ => true) true 24 v d p) :
    ∃ c bk fi se : Int, v = .agg #[.int .u8 c, .int .u8 bk, .int .u8 fi, .int .u8 se] ∧ (0 ≤ c ∧ c < 256) ∧ (0 ≤ bk ∧ bk < 256) ∧ (0 ≤ fi ∧ fi < 256) ∧ (0 ≤ se ∧ se < 256) := by
  obtain ⟨cs, rfl, hsz⟩ := okWide_struct Try.underlying24 hv
  obtain ⟨fuel, hf⟩ := h
  obtain ⟨xs, n, _, _, _, hlen, hg⟩ := DataW.trod_struct Try.underlying24 hf
  rw [cells24] at hsz
  have hx : ∀ i, i < 4 → ∃ y, xs[i]? = some y := fun i hi => ⟨xs[i]'(by rw [hlen]; exact hi), List.getElem?_eq_getElem _⟩
  obtain ⟨l⟩ := cs
  match l, hsz with
  | [c0, c1, c2, c3], _ =>
    obtain ⟨y0, hy0⟩ := hx 0 (by decide)
    have g0 := (hg 0 _ rfl).trans hy0
    simp [Value.cells, cells5] at g0
    obtain ⟨n0, e0, _, w0⟩ := DataW.trod_int Try.underlying5 g0
    obtain rfl : c0 = .int .u8 n0 := by simpa using e0
    obtain ⟨y1, hy1⟩ := hx 1 (by decide)
    have g1 := (hg 1 _ rfl).trans hy1
    simp [Value.cells, cells5] at g1
    obtain ⟨n1, e1, _, w1⟩ := DataW.trod_int Try.underlying5 g1
    obtain rfl : c1 = .int .u8 n1 := by simpa using e1
    obtain ⟨y2, hy2⟩ := hx 2 (by decide)
    have g2 := (hg 2 _ rfl).trans hy2
    simp [Value.cells, cells5] at g2
    obtain ⟨n2, e2, _, w2⟩ := DataW.trod_int Try.underlying5 g2
    obtain rfl : c2 = .int .u8 n2 := by simpa using e2
    obtain ⟨y3, hy3⟩ := hx 3 (by decide)
    have g3 := (hg 3 _ rfl).trans hy3
    simp [Value.cells, cells5] at g3
    obtain ⟨n3, e3, _, w3⟩ := DataW.trod_int Try.underlying5 g3
    obtain rfl : c3 = .int .u8 n3 := by simpa using e3
    exact ⟨n0, n1, n2, n3, rfl, u8_bd w0, u8_bd w1, u8_bd w2, u8_bd w3⟩
/-- v is a slice of bytes that lies in memory. -/
def MemIn (W : World) (v : Value) : Prop := ∃ (a : Option Addr) (n c : Nat), v = .slice a n c ∧ n ≤ 9223372036854775807 ∧ (n ≤ 8192 → ∃ F, Mem W (.slice a n c) F)
open Go.Deep in
theorem open_mem {H : Type} {enc : TypeId × Value → H} {W : World} {base : Nat} {v : Value} {d : DataW H} {p : List MemPlace}
    (hv : Value.okWide Try.prog W .any base 22 v) (h : DataW.Trod enc Try.prog W 0 (fun _ => true) true 22 v d p) : MemIn W v := by
  obtain ⟨a0, len, cap, rfl⟩ := okWide_slice Try.underlying22 hv
  obtain ⟨fuel, hf⟩ := h
  rcases open_ints Try.underlying22 Try.underlying5 cells5 hf with ⟨hcs, _⟩ | ⟨a, len', cap', zs, hcs, _, hl, hm, hz, _, hcell, hwz⟩
  · simp [Value.cells] at hcs
    obtain ⟨rfl, rfl, rfl⟩ := hcs
    exact ⟨none, 0, 0, rfl, by omega, fun _ => ⟨zeroM, none, 0, 0, rfl, by omega, by omega, fun _ => by simp [zeroM], fun _ _ => rfl, fun h => absurd h (by omega)⟩⟩
  · simp [Value.cells] at hcs
    obtain ⟨rfl, rfl, rfl⟩ := hcs
    simp at hz
    unfold maxLen at hm
    have hw : ∀ i, 0 ≤ zs.getD i 0 ∧ zs.getD i 0 < 256 := fun i => by
      by_cases hi : i < zs.length
      · have e : zs.getD i 0 = zs[i] := by simp [hi]
        rw [e]
        exact u8_bd (hwz _ (List.getElem_mem hi))
      · have e : zs.getD i 0 = 0 := by simp [Nat.le_of_not_lt hi]
        rw [e]; decide
    refine ⟨some a, len, cap, rfl, by omega, fun h8 => ⟨fun j => if j < len then zs.getD j 0 else 0, some a, len, cap, rfl, h8, by omega, fun i => ?_, fun k hk => if_neg (by omega), fun h0 => ?_⟩⟩
    · dsimp only
      split
      · exact hw i
      · decide
    · obtain ⟨b, off, rfl, hc⟩ := ints_at hcell (by omega)
      refine ⟨b, off, rfl, World.block_lt_of_cell? W _ (hc 0 (by omega)), fun j hj => ?_⟩
      show W.cell? _ = some (.int .u8 (if j < len then zs.getD j 0 else 0))
      rw [if_pos hj]
      exact hc j (by omega)
theorem filled_m (a : Option Addr) (n c : Nat) (F : M) (w : World) (h : Mem w (.slice a n c) F) : Calls Try.prog 10 #[.slice a n c] w (FillE F n w.heap.size w) := by
  obtain ⟨a2, n2, c2, e, h1, h2, h3, h4, h5⟩ := h
  injection e with e1 e2 e3
  subst e1 e2 e3
  exact filled_c a n c F h1 h2 h3 w h5
end Go.Proofs.Ytiekojnhkemjlaa
