/-
  Stores of a map, the first test of each law (awake), and what comes in: a slice of writes, a slice of bytes; no condition.
-/
import Derived.Test.YtafmmffgenolaaaBnk
import Derived.Test.YtafmmffgenolaaaCart
import Derived.Deep.Cut
import Derived.Deep.Slices
namespace Go.Proofs.Ytafmmffgenolaaa
open Go.ChangeShapes Go.WideShapes Go.ChangeAt Go.RowKit
set_option linter.unusedVariables false
set_option linter.unusedSimpArgs false
set_option maxRecDepth 100000
theorem Has.put8 {w : World} {b : Nat} {a0 a1 a2 a3 a4 a5 a6 a7 : Value} (h : Has w b #[a0, a1, a2, a3, a4, a5, a6, a7]) (v0 v1 v2 v3 v4 v5 v6 v7 : Value) : Has (World.setCell (World.setCell (World.setCell (World.setCell (World.setCell (World.setCell (World.setCell (World.setCell w ⟨b, 0, none⟩ (v0)) ⟨b, 1, none⟩ (v1)) ⟨b, 2, none⟩ (v2)) ⟨b, 3, none⟩ (v3)) ⟨b, 4, none⟩ (v4)) ⟨b, 5, none⟩ (v5)) ⟨b, 6, none⟩ (v6)) ⟨b, 7, none⟩ (v7)) b #[v0, v1, v2, v3, v4, v5, v6, v7] := by
  have := (((((((h.set 0 v0 (by simp)).set 1 v1 (by simp)).set 2 v2 (by simp)).set 3 v3 (by simp)).set 4 v4 (by simp)).set 5 v5 (by simp)).set 6 v6 (by simp)).set 7 v7 (by simp)
  simpa using this
theorem Has.far8 {w : World} {r b : Nat} {A : Array Value} (h : Has w r A) (hn : r ≠ b) (v0 v1 v2 v3 v4 v5 v6 v7 : Value) : Has (World.setCell (World.setCell (World.setCell (World.setCell (World.setCell (World.setCell (World.setCell (World.setCell w ⟨b, 0, none⟩ (v0)) ⟨b, 1, none⟩ (v1)) ⟨b, 2, none⟩ (v2)) ⟨b, 3, none⟩ (v3)) ⟨b, 4, none⟩ (v4)) ⟨b, 5, none⟩ (v5)) ⟨b, 6, none⟩ (v6)) ⟨b, 7, none⟩ (v7)) r A :=
  (((((((h.far ⟨b, 0, none⟩ v0 (fun e => hn e.symm)).far ⟨b, 1, none⟩ v1 (fun e => hn e.symm)).far ⟨b, 2, none⟩ v2 (fun e => hn e.symm)).far ⟨b, 3, none⟩ v3 (fun e => hn e.symm)).far ⟨b, 4, none⟩ v4 (fun e => hn e.symm)).far ⟨b, 5, none⟩ v5 (fun e => hn e.symm)).far ⟨b, 6, none⟩ v6 (fun e => hn e.symm)).far ⟨b, 7, none⟩ v7 (fun e => hn e.symm)
theorem aw1 (w : World) : Calls Try.prog 11 #[.agg #[.string { data := #[] }, .int .i64 1, .bool false, .bool false, .int .i64 8, .int .i64 0, .bool false]] w fun e w' => e = .returned (.agg #[.int .i64 1, .int .i64 8, .int .i64 0, .bool false, .bool false, .int .i64 1, .int .i64 0, .int .u8 255]) ∧ Below w.heap.size w w' := new_c 1 8 0 _ false false false w
theorem aw2 (w : World) : Calls Try.prog 13 #[.agg #[.int .i64 1, .int .i64 8, .int .i64 0, .bool false, .bool false, .int .i64 1, .int .i64 0, .int .u8 255], .int .u16 8192, .int .u8 9] w fun e w' => e = .returned (.tuple #[.agg #[.int .i64 1, .int .i64 8, .int .i64 0, .bool false, .bool false, .int .i64 9, .int .i64 0, .int .u8 255], .bool false]) ∧ Below w.heap.size w w' :=
  write_c ⟨1, 8, 0, false, false, 1, 0, 255⟩ ⟨1, 8, 0, false, false, 9, 0, 255⟩ 8192 9 false ⟨by decide, by decide, by decide, by decide, by decide, by decide⟩ (by decide) (by decide) (by decide) (by decide) (by rfl) (by rfl) w
theorem aw3 (w : World) : Calls Try.prog 19 #[.agg #[.int .i64 1, .int .i64 8, .int .i64 0, .bool false, .bool false, .int .i64 9, .int .i64 0, .int .u8 255], .int .u16 16384] w fun e w' => e = .returned (.int .i64 1) ∧ Below w.heap.size w w' := bank_c ⟨1, 8, 0, false, false, 9, 0, 255⟩ 16384 1 ⟨by decide, by decide, by decide, by decide, by decide, by decide⟩ (by decide) (by decide) (by rfl) w
theorem aw4 (w : World) : Calls Try.prog 21 #[.agg #[.int .i64 1, .int .i64 8, .int .i64 0, .bool false, .bool false, .int .i64 9, .int .i64 0, .int .u8 255], .int .u16 16385] w fun e w' => e = .returned (.int .i64 16385) ∧ Below w.heap.size w w' := rom_c ⟨1, 8, 0, false, false, 9, 0, 255⟩ 16385 16385 ⟨by decide, by decide, by decide, by decide, by decide, by decide⟩ (by decide) (by decide) (by rfl) w
set_option maxHeartbeats 2000000 in
theorem awake_c (w : World) : Calls Try.prog 9 #[] w fun e w' => e = .returned (.bool true) ∧ Below w.heap.size w w' := by
  go_enter Try.func9, Try.ntmps9
  go_wp2_with fail
  with_reducible refine (aw1 _).mono ?_
  rintro e w1 ⟨rfl, hb1⟩
  have B1 := Lib.hid hb1
  have L1 := Lib.hid hb1.size
  clear hb1
  go_wp2_with fail
  with_reducible refine (aw2 _).mono ?_
  rintro e w2 ⟨rfl, hb2⟩
  have H2 := Lib.hid ((Has.new w1 #[.int .i64 1, .int .i64 8, .int .i64 0, .bool false, .bool false, .int .i64 1, .int .i64 0, .int .u8 255] 29).below hb2)
  have B2 := Lib.hid (B1.out.stepA B1.out.size hb2)
  clear hb2
  generalize w1.heap.size = g at H2 L1 ⊢
  obtain ⟨hc, hf⟩ := H2.out.out
  have H3 := Lib.hid (H2.out.put8 (.int .i64 1) (.int .i64 8) (.int .i64 0) (.bool false) (.bool false) (.int .i64 9) (.int .i64 0) (.int .u8 255))
  have B3 := Lib.hid (set8 B2.out g L1.out (.int .i64 1) (.int .i64 8) (.int .i64 0) (.bool false) (.bool false) (.int .i64 9) (.int .i64 0) (.int .u8 255))
  go_wp2_with fail
  generalize (World.setCell (World.setCell (World.setCell (World.setCell (World.setCell (World.setCell (World.setCell (World.setCell w2 ⟨g, 0, none⟩ (.int .i64 1)) ⟨g, 1, none⟩ (.int .i64 8)) ⟨g, 2, none⟩ (.int .i64 0)) ⟨g, 3, none⟩ (.bool false)) ⟨g, 4, none⟩ (.bool false)) ⟨g, 5, none⟩ (.int .i64 9)) ⟨g, 6, none⟩ (.int .i64 0)) ⟨g, 7, none⟩ (.int .u8 255)) = w3 at H3 B3 ⊢
  clear hc hf H2 B2
  with_reducible refine (aw3 _).mono ?_
  rintro e w4 ⟨rfl, hb4⟩
  have H4 := Lib.hid (H3.out.below hb4)
  have B4 := Lib.hid (via B3.out hb4)
  clear hb4 H3 B3
  obtain ⟨hc, hf⟩ := H4.out.out
  go_wp2_with fail
  with_reducible refine (aw4 _).mono ?_
  rintro e w5 ⟨rfl, hb5⟩
  have H5 := Lib.hid (H4.out.below hb5)
  have B5 := Lib.hid (via B4.out hb5)
  clear hb5 hc hf H4 B4
  obtain ⟨hc, hf⟩ := H5.out.out
  go_wp2
  go_ret
  exact ⟨rfl, B5.out⟩
theorem cells5 : Try.prog.cellsOf 5 = 1 := by kernel_rfl
theorem cells23 : Try.prog.cellsOf 23 = 1 := by kernel_rfl
theorem cells37 : Try.prog.cellsOf 37 = 2 := by kernel_rfl
def zf : Nat → Int := fun _ => 0
/-- v is a slice of writes that lies in memory. -/
def PkIn (W : World) (v : Value) : Prop := ∃ (a : Option Addr) (n c : Nat), v = .slice a n c ∧ n ≤ 9223372036854775807 ∧ ∃ f g : Nat → Int, (∀ i, 0 ≤ f i ∧ f i < 65536) ∧ (∀ i, 0 ≤ g i ∧ g i < 256) ∧ (0 < n → ∃ b o, a = some ⟨b, o, none⟩ ∧ b < W.heap.size ∧ ∀ j, j < n → W.cell? ⟨b, o + j * 2, none⟩ = some (.int .u16 (f j)) ∧ W.cell? ⟨b, o + j * 2 + 1, none⟩ = some (.int .u8 (g j)))
open Go.Deep in
theorem open_pokes {H : Type} {enc : TypeId × Value → H} {W : World} {base : Nat} {v : Value} {d : DataW H} {p : List MemPlace}
    (hv : Value.okWide Try.prog W .any base 22 v) (h : DataW.Trod enc Try.prog W 0 (fun _ => true) true 22 v d p) : PkIn W v := by
  obtain ⟨a0, len, cap, rfl⟩ := okWide_slice Try.underlying22 hv
  obtain ⟨fuel, hf⟩ := h
  rcases open_slice Try.underlying22 hf with ⟨hcs, _⟩ | ⟨a, len', cap', m, n, D, Pl, hcs, _, hl, hm, hmm, _, hi⟩
  · simp [Value.cells] at hcs
    obtain ⟨rfl, rfl, rfl⟩ := hcs
    exact ⟨none, 0, 0, rfl, by omega, zf, zf, fun _ => by simp [zf], fun _ => by simp [zf], fun h => absurd h (by omega)⟩
  · simp [Value.cells] at hcs
    obtain ⟨rfl, rfl, rfl⟩ := hcs
    simp at hmm
    unfold maxLen at hm
    rw [cells37] at hi
    have key : ∀ i, i < len → ∃ x y : Int, (0 ≤ x ∧ x < 65536) ∧ (0 ≤ y ∧ y < 256) ∧ W.cell? ((a.add (i * 2)).add 0) = some (.int .u16 x) ∧ W.cell? ((a.add (i * 2)).add 1) = some (.int .u8 y) := by
      intro i hlt
      obtain ⟨cs, hc, ht⟩ := hi i (by omega)
      obtain ⟨_, hcl, hat⟩ := World.cells?_some hc
      obtain ⟨xs, m1, _, _, _, hlen, hg⟩ := DataW.trod_struct Try.underlying37 ht
      have hx : ∀ i, i < 2 → ∃ y, xs[i]? = some y := fun i hi => ⟨xs[i]'(by rw [hlen]; exact hi), List.getElem?_eq_getElem _⟩
      match cs, hcl with
      | [c0, c1], _ =>
        obtain ⟨y0, hy0⟩ := hx 0 (by decide)
        obtain ⟨y1, hy1⟩ := hx 1 (by decide)
        have h0 := (hg 0 _ rfl).trans hy0
        have h1 := (hg 1 _ rfl).trans hy1
        simp [cells5, cells23] at h0 h1
        obtain ⟨x, q0, _, w0⟩ := DataW.trod_int Try.underlying23 h0
        obtain ⟨y, q1, _, w1⟩ := DataW.trod_int Try.underlying5 h1
        have r0 : c0 = .int .u16 x := by simpa using q0
        have r1 : c1 = .int .u8 y := by simpa using q1
        refine ⟨x, y, u16_bd w0, u8_bd w1, ?_, ?_⟩
        · rw [hat 0 (by decide)]; simp [r0]
        · rw [hat 1 (by decide)]; simp [r1]
    by_cases h0 : 0 < len
    · obtain ⟨b, off, spot⟩ := a
      obtain ⟨x, y, _, _, hx, _⟩ := key 0 h0
      have hspot : spot = none := by simpa [Addr.add] using World.cell?_spot hx
      subst hspot
      have ad : ∀ i k, ((⟨b, off, none⟩ : Addr).add i).add k = ⟨b, off + i + k, none⟩ := fun i k => by rw [Go.WideShapes.add_plain, Go.WideShapes.add_plain]
      have key2 : ∀ i : Nat, ∃ p : Int × Int, (0 ≤ p.1 ∧ p.1 < 65536) ∧ (0 ≤ p.2 ∧ p.2 < 256) ∧ (i < len → W.cell? ⟨b, off + i * 2, none⟩ = some (.int .u16 p.1) ∧ W.cell? ⟨b, off + i * 2 + 1, none⟩ = some (.int .u8 p.2)) := by
        intro i
        by_cases hlt : i < len
        · obtain ⟨x, y, hx, hy, cx, cy⟩ := key i hlt
          rw [ad] at cx cy
          exact ⟨(x, y), hx, hy, fun _ => ⟨cx, cy⟩⟩
        · exact ⟨(0, 0), by decide, by decide, fun h => absurd h hlt⟩
      obtain ⟨F, hF⟩ := Classical.axiomOfChoice key2
      rw [ad] at hx
      exact ⟨some ⟨b, off, none⟩, len, cap, rfl, by omega, fun i => (F i).1, fun i => (F i).2, fun i => (hF i).1, fun i => (hF i).2.1, fun _ => ⟨b, off, rfl, World.block_lt_of_cell? W _ hx, fun j hj => (hF j).2.2 hj⟩⟩
    · have e : len = 0 := by omega
      subst e
      exact ⟨some a, 0, cap, rfl, by omega, zf, zf, fun _ => by simp [zf], fun _ => by simp [zf], fun h => absurd h (by omega)⟩
/-- v is a slice of bytes that lies in memory. -/
def ByIn (W : World) (v : Value) : Prop := ∃ (a : Option Addr) (n c : Nat), v = .slice a n c ∧ n ≤ 9223372036854775807 ∧ ∃ f : Nat → Int, (∀ i, 0 ≤ f i ∧ f i < 256) ∧ (0 < n → ∃ b o, a = some ⟨b, o, none⟩ ∧ b < W.heap.size ∧ ∀ j, j < n → W.cell? ⟨b, o + j, none⟩ = some (.int .u8 (f j)))
open Go.Deep in
theorem open_bytes {H : Type} {enc : TypeId × Value → H} {W : World} {base : Nat} {v : Value} {d : DataW H} {p : List MemPlace}
    (hv : Value.okWide Try.prog W .any base 49 v) (h : DataW.Trod enc Try.prog W 0 (fun _ => true) true 49 v d p) : ByIn W v := by
  obtain ⟨a0, len, cap, rfl⟩ := okWide_slice Try.underlying49 hv
  obtain ⟨fuel, hf⟩ := h
  rcases open_ints Try.underlying49 Try.underlying5 cells5 hf with ⟨hcs, _⟩ | ⟨a, len', cap', zs, hcs, _, hl, hm, hz, _, hcell, hwz⟩
  · simp [Value.cells] at hcs
    obtain ⟨rfl, rfl, rfl⟩ := hcs
    exact ⟨none, 0, 0, rfl, by omega, zf, fun _ => by simp [zf], fun h => absurd h (by omega)⟩
  · simp [Value.cells] at hcs
    obtain ⟨rfl, rfl, rfl⟩ := hcs
    simp at hz
    unfold maxLen at hm
    have hw : ∀ i, 0 ≤ zs.getD i 0 ∧ zs.getD i 0 < 256 := fun i => by
      by_cases hi : i < zs.length
      · have e : zs.getD i 0 = zs[i] := by simp [hi]
        rw [e]
        exact u8_bd (hwz _ (List.getElem_mem hi))
      · have e : zs.getD i 0 = 0 := by simp [Nat.le_of_not_lt hi]
        rw [e]; decide
    refine ⟨some a, len, cap, rfl, by omega, fun j => zs.getD j 0, hw, fun h0 => ?_⟩
    obtain ⟨b, off, rfl, hc⟩ := ints_at hcell (by omega)
    exact ⟨b, off, rfl, World.block_lt_of_cell? W _ (hc 0 (by omega)), fun j hj => hc j (by omega)⟩
end Go.Proofs.Ytafmmffgenolaaa
