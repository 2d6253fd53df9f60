/-
  Two plans that a law makes side by side; no condition but that there are few.
-/
import Derived.Test.YtbpfeppgonhclaaRow
import Derived.Deep.Cut
import Derived.Maps.AppendAt
namespace Go.Proofs.Ytbpfeppgonhclaa
open Go.ChangeShapes Go.WideShapes Go.ChangeAt Go.RowKit
set_option linter.unusedVariables false
set_option linter.unusedSimpArgs false
set_option maxRecDepth 100000
def Apt (v u : Value) : Prop := ∀ k, ¬ (v.ownBlock = some k ∧ u.ownBlock = some k)
theorem Apt.symm {v u : Value} (h : Apt v u) : Apt u v := fun k e => h k ⟨e.2, e.1⟩
theorem Apt.row {v u : Value} (h : Apt v u) : v.ownBlock = none ∨ v.ownBlock ≠ u.ownBlock := by
  cases e : v.ownBlock with
  | none => exact Or.inl rfl
  | some k => exact Or.inr (fun e2 => h k ⟨e, e2.symm⟩)
/-- append of one change to a plan beside another one. -/
theorem app2_c {w : World} {base n m : Nat} {v u : Value} {f g f2 g2 : Nat → Int} (h : w.ownsRow base 41 2 v n (plL f g n)) (h2 : w.ownsRow base 41 2 u m (plL f2 g2 m)) (ha : Apt v u) (hb : base ≤ w.heap.size) (hn : n < 1000000) :
    ∃ v' w', (Builtin.append_ #[39, 39] 39 #[v, .slice (some ⟨w.heap.size, 0, none⟩) 1 1]).run Try.prog (w.alloc (.cells #[.int .u64 (f n), .int .u8 (g n)] 41)) = .ok v' w' ∧
      w'.ownsRow base 41 2 v' (n + 1) (plL f g (n + 1)) ∧ Below base w w' ∧ w'.ownsRow base 41 2 u m (plL f2 g2 m) ∧ Apt v' u := by
  obtain ⟨i0, hi, hz0, hz1, hz2⟩ := info_parts infoC
  obtain ⟨v', w', hr, ho, hg, _, hat⟩ := run_append_own_at (P := Try.prog) (w.alloc (.cells #[.int .u64 (f n), .int .u8 (g n)] 41)) base 39 39 41 i0 _ 2 16 Try.underlying39 hi hz0 hz1 hz2 rfl (by decide)
    v n (plL f g n) (h.alloc _) ⟨w.heap.size, 0, none⟩ 1 1 [.int .u64 (f n), .int .u8 (g n)] rfl (two_cells w _ _) (fun u hu => by simp at hu; rcases hu with rfl | rfl <;> rfl)
    (by simp only [maxLen]; omega) (by omega) (by simp; omega)
  refine ⟨v', w', hr, ho, ?_, (h2.alloc _).kept hg ha.symm.row, ?_⟩
  · exact ((Below.refl base w).alloc hb _).grown hg (by simp; omega) (fun k hk => (h.lt k hk).1)
  · intro k e
    rcases hat with e1 | e1
    · exact ha k ⟨by rw [← e1]; exact e.1, e.2⟩
    · rw [e1] at e
      have := (h2.lt k e.2).2
      have e3 := e.1
      simp at e3
      omega
/-- The plan lies in memory. -/
def PIn (W : World) (a : Option Addr) (n : Nat) (f g : Nat → Int) : Prop := (0 < n → ∃ qb qo, a = some ⟨qb, qo, none⟩ ∧ qb < W.heap.size ∧ ∀ j, j < n → W.cell? ⟨qb, qo + j * 2, none⟩ = some (.int .u64 (f j)) ∧ W.cell? ⟨qb, qo + j * 2 + 1, none⟩ = some (.int .u8 (g j)))
theorem PIn.below {W W' : World} {a : Option Addr} {n : Nat} {f g : Nat → Int} (h : PIn W a n f g) (hb : Below W.heap.size W W') : PIn W' a n f g := by
  intro h0
  obtain ⟨qb, qo, e, hq, hc⟩ := h h0
  exact ⟨qb, qo, e, Nat.lt_of_lt_of_le hq hb.size, fun j hj => ⟨(hb.cell (p := ⟨qb, qo + j * 2, none⟩) hq).trans (hc j hj).1, (hb.cell (p := ⟨qb, qo + j * 2 + 1, none⟩) hq).trans (hc j hj).2⟩⟩
theorem ownsRow_drewN {w : World} {base n size : Nat} {e : TypeId} {v : Value} {xs : List Value} (k : Nat) (h : w.ownsRow base e size v n xs) : (w.drewN k).ownsRow base e size v n xs := by
  unfold World.ownsRow at h ⊢
  simpa [go_sem] using h
end Go.Proofs.Ytbpfeppgonhclaa
