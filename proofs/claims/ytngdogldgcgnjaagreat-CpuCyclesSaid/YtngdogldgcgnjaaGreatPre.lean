/-
  Bytes that come in, a memory filled out of bytes as a bus, and a bus's accesses as a list: for every world; no condition beyond those that each statement names.
-/
import Derived.Test.YtngdogldgcgnjaaGreatFi
import Derived.Test.YtngdogldgcgnjaaGreatAr
import Derived.Test.YtngdogldgcgnjaaGreatOpen
import Derived.Test.YtngdogldgcgnjaaGreatL2
namespace Go.Proofs.YtngdogldgcgnjaaGreat
open Go.ChangeShapes Go.WideShapes Go.ChangeAt Go.RowKit Go.Deep
set_option linter.unusedVariables false
set_option maxRecDepth 100000
/-- v is a list of n bytes f. -/
def By (W : World) (v : Value) (n : Nat) (f : Nat → Int) : Prop := n < 4611686018427387904 ∧ (∀ j, 0 ≤ f j ∧ f j < 256) ∧
  ((n = 0 ∧ ∃ a c, v = .slice a 0 c) ∨ (0 < n ∧ ∃ b o c, v = .slice (some ⟨b, o, none⟩) n c ∧ b < W.heap.size ∧ ∀ j, j < n → W.cell? ⟨b, o + j, none⟩ = some (.int .u8 (f j))))
theorem By.below {W W' : World} {v : Value} {n : Nat} {f : Nat → Int} (h : By W v n f) (hb : Below W.heap.size W W') : By W' v n f := by
  obtain ⟨h0, hf, h1 | ⟨hn, b, o, c, e, hl, hc⟩⟩ := h
  · exact ⟨h0, hf, Or.inl h1⟩
  · exact ⟨h0, hf, Or.inr ⟨hn, b, o, c, e, Nat.lt_of_lt_of_le hl hb.size, fun j hj => (hb.cell (p := ⟨b, o + j, none⟩) hl).trans (hc j hj)⟩⟩
theorem filled_c {W : World} {v : Value} {n : Nat} {f : Nat → Int} (h : By W v n f) :
    Calls Tryz.prog 12 #[v] W fun e w' => e = .returned (.slice (some ⟨W.heap.size, 0, none⟩) 65536 65536) ∧ Below W.heap.size W w' ∧ Fi w' W.heap.size n f 65536 := by
  obtain ⟨h0, hf, ⟨rfl, a, c, rfl⟩ | ⟨hn, b, o, c, rfl, hl, hc⟩⟩ := h
  · exact filled_none a c f W
  · exact filled_some b o n c f W hn h0 hl hc
def fillM (n : Nat) (f : Nat → Int) : Int → Int := fun a => fillV n f a.toNat
theorem fillM_ok {n : Nat} {f : Nat → Int} (h : ∀ j, 0 ≤ f j ∧ f j < 256) (a : Int) : 0 ≤ fillM n f a ∧ fillM n f a < 256 := by
  unfold fillM fillV
  split
  · decide
  · exact h _
theorem Fi.ram {w : World} {M n : Nat} {f : Nat → Int} (h : Fi w M n f 65536) (hf : ∀ j, 0 ≤ f j ∧ f j < 256) : Ram (w.alloc (.cells #[.slice (some ⟨M, 0, none⟩) 65536 65536, .slice none 0 0] 35)) w.heap.size M (fillM n f) := by
  have h2 := Has.new w #[.slice (some ⟨M, 0, none⟩) 65536 65536, .slice none 0 0] 35
  have hb := bcell (own1 w (.cells #[.slice (some ⟨M, 0, none⟩) 65536 65536, .slice none 0 0] 35))
  refine ⟨h2, fun a ha => ?_, fun a => (hb.2 M a h.lt).trans (h.free a), by simpa using Nat.lt_succ_of_lt h.lt, by have := h.lt; omega, fillM_ok hf⟩
  rw [hb.1 M a h.lt, h.mem a ha, if_pos ha]
  rfl
theorem open_by {H : Type} {enc : TypeId × Value → H} {W : World} {base : Nat} {v : Value} {d : DataW H} {p : List MemPlace}
    (hv : Value.okWide Tryz.prog W .any base 27 v) (h : DataW.Trod enc Tryz.prog W 0 (fun _ => true) true 27 v d p) : ∃ (a : Option Addr) (n c : Nat), v = .slice a n c ∧ n ≤ 9223372036854775807 ∧ (n < 4611686018427387904 → ∃ f, By W v n f) := by
  obtain ⟨a0, len, cap, rfl⟩ := okWide_slice Tryz.underlying27 hv
  obtain ⟨fuel, hf⟩ := h
  rcases open_ints Tryz.underlying27 Tryz.underlying5 cells5 hf with ⟨hcs, _⟩ | ⟨a, len', cap', zs, hcs, _, hl, hm, hz, _, hcell, hwz⟩
  · simp [Value.cells] at hcs
    obtain ⟨rfl, rfl, rfl⟩ := hcs
    exact ⟨none, 0, 0, rfl, by omega, fun h => ⟨fun _ => 0, h, fun _ => ⟨Int.le_refl _, (by decide : (0 : Int) < 256)⟩, Or.inl ⟨rfl, none, 0, rfl⟩⟩⟩
  · simp [Value.cells] at hcs
    obtain ⟨rfl, rfl, rfl⟩ := hcs
    simp at hz
    unfold maxLen at hm
    refine ⟨some a, len, cap, rfl, by omega, fun h => ?_⟩
    have hw : ∀ i, 0 ≤ zs.getD i 0 ∧ zs.getD i 0 < 256 := fun i => by
      by_cases hi : i < zs.length
      · have e : zs.getD i 0 = zs[i] := by simp [hi]
        rw [e]
        exact u8_bd (hwz _ (List.getElem_mem hi))
      · have e : zs.getD i 0 = 0 := by simp [Nat.le_of_not_lt hi]
        rw [e]; decide
    by_cases h0 : len = 0
    · subst h0
      exact ⟨fun _ => 0, h, fun _ => ⟨Int.le_refl _, (by decide : (0 : Int) < 256)⟩, Or.inl ⟨rfl, some a, cap, rfl⟩⟩
    · obtain ⟨b, off, rfl, hc⟩ := ints_at hcell (by omega)
      exact ⟨fun j => zs.getD j 0, h, hw, Or.inr ⟨by omega, b, off, cap, rfl, World.block_lt_of_cell? W _ (hc 0 (by omega)), fun j hj => hc j (by omega)⟩⟩
theorem accL_at : ∀ (l : List Ac) (i : Nat) (x : Ac), l[i]? = some x → (accL l)[i * 3]? = some (.int .i64 x.k) ∧ (accL l)[i * 3 + 1]? = some (.int .u16 x.a) ∧ (accL l)[i * 3 + 2]? = some (.int .u8 x.v)
  | [], _, _, h => by simp at h
  | y :: r, 0, x, h => by
    have e : y = x := by simpa using h
    subst e
    exact ⟨rfl, rfl, rfl⟩
  | y :: r, i + 1, x, h => by
    have q := accL_at r i x (by simpa using h)
    have e : accL (y :: r) = .int .i64 y.k :: .int .u16 y.a :: .int .u8 y.v :: accL r := rfl
    rw [e, show (i + 1) * 3 = i * 3 + 1 + 1 + 1 by omega]
    exact q
theorem Bus.ar {C : Nat → Int → Value → Array Value} {w : World} {R M tb n : Nat} {v : Value} {m : Int → Int} {acc : List Ac} (h : Bus C w R M tb v m acc n) : ∃ a c, v = .slice a acc.length c ∧ AR w a acc := by
  rcases h.own.2 with ⟨e, e'⟩ | ⟨g, cap, cur, e, _⟩
  · have ea : acc = [] := by simpa using e'
    subst ea
    exact ⟨none, 0, e, fun i x hx => by simp at hx⟩
  · refine ⟨some ⟨g, 0, none⟩, cap, e, fun i x hx => ?_⟩
    have hg : v.ownBlock = some g := by rw [e]; rfl
    have ha : ∀ j u, (accL acc)[j]? = some u → w.cell? ⟨g, 0 + j, none⟩ = some u := fun j u hu => by
      have := h.own.cells hg j u hu
      have e : (⟨g, 0, none⟩ : Addr).add j = ⟨g, 0 + j, none⟩ := by unfold Addr.add; split <;> simp_all
      rwa [e] at this
    obtain ⟨q0, q1, q2⟩ := accL_at acc i x hx
    have r0 := ha _ _ q0
    exact ⟨g, 0, rfl, World.block_lt_of_cell? w _ r0, r0, ha _ _ q1, ha _ _ q2⟩
end Go.Proofs.YtngdogldgcgnjaaGreat
