/-
  Off, plain data; no program.
-/
import Derived.Test.YtafmmffgenolaaaBase
namespace Go.Proofs.Ytafmmffgenolaaa
open Go.ChangeShapes Go.WideShapes Go.ChangeAt Go.RowKit
set_option linter.unusedVariables false
set_option linter.unusedSimpArgs false
set_option maxRecDepth 100000
theorem wr_zero (m : MV) (a x : Int) (h : m.k = 0) : wrV m a x = m := by
  unfold wrV; rw [if_neg (by omega), if_neg (by omega), if_neg (by omega), if_neg (by omega)]
def Ways (K R x : Int) (hi : Int) (ok cl : Bool) : Prop :=
  ((K == 0) = true ∧ (K == 3) = false ∧ 0 < R ∧ ok = true ∧ cl = false) ∨
  ((K == 0) = true ∧ (K == 3) = false ∧ ¬ 0 < R ∧ ok = false ∧ cl = false) ∨
  ((K == 0) = false ∧ (K == 3) = false ∧ (x % 16 == 10) = true ∧ 0 < R ∧ ok = true ∧ cl = false) ∨
  ((K == 0) = false ∧ (K == 3) = false ∧ (x % 16 == 10) = true ∧ ¬ 0 < R ∧ ok = false ∧ cl = false) ∨
  ((K == 0) = false ∧ (K == 3) = false ∧ (x % 16 == 10) = false ∧ ok = false ∧ cl = false) ∨
  ((K == 0) = false ∧ (K == 3) = true ∧ (x % 16 == 10) = true ∧ hi ≤ 3 ∧ 0 < R ∧ ok = true ∧ cl = false) ∨
  ((K == 0) = false ∧ (K == 3) = true ∧ (x % 16 == 10) = true ∧ hi ≤ 3 ∧ ¬ 0 < R ∧ ok = false ∧ cl = false) ∨
  ((K == 0) = false ∧ (K == 3) = true ∧ (x % 16 == 10) = false ∧ hi ≤ 3 ∧ ok = false ∧ cl = false) ∨
  ((K == 0) = false ∧ (K == 3) = true ∧ (x % 16 == 10) = true ∧ 3 < hi ∧ hi < 8 ∧ ok = false ∧ cl = false) ∨
  ((K == 0) = false ∧ (K == 3) = true ∧ (x % 16 == 10) = true ∧ 8 ≤ hi ∧ hi ≤ 12 ∧ ok = false ∧ cl = true) ∨
  ((K == 0) = false ∧ (K == 3) = true ∧ (x % 16 == 10) = true ∧ 12 < hi ∧ ok = false ∧ cl = false) ∨
  ((K == 0) = false ∧ (K == 3) = true ∧ (x % 16 == 10) = false ∧ 3 < hi ∧ ok = false ∧ cl = false)
theorem off4 (m : MV) (h : m.k = 4) : isV (atV m 40960) = false := by
  have e : offV m 40960 = none := by unfold offV; rw [if_neg (by omega), if_neg (by omega), if_neg (by omega), if_neg (by omega), if_neg (by omega)]
  unfold atV; rw [if_neg (by decide), if_neg (by decide), e]
  repeat' split
  all_goals rfl
theorem at_on (m : MV) : isV (atV m 40960) = (m.on && decide (0 < m.r) && (offV m 40960).isSome) := by
  unfold atV; rw [if_neg (by decide), if_neg (by decide)]
  by_cases h : m.on = false
  · rw [if_pos h, h]; rfl
  · have h' : m.on = true := by simpa using h
    rw [if_neg h, h']
    by_cases hr : m.r < 1
    · rw [if_pos hr]
      have : decide (0 < m.r) = false := by simp; omega
      rw [this]; rfl
    · rw [if_neg hr]
      have : decide (0 < m.r) = true := by simp; omega
      rw [this]; simp [isV]
theorem off_ways (m : MV) (K R x : Int) (hm : m.ok) (hk : m.k = K) (hr : m.r = R) (h0 : K = 0 → m.on = true) (h4 : K ≠ 4) : Ways K R x (wrV m 0 x).hi (isV (atV (wrV m 0 x) 40960)) (isV (clV (wrV m 0 x))) := by
  obtain ⟨k, n, r, on, mo, lo, hi, la⟩ := m
  obtain ⟨⟨k0, k1⟩, _, _, _, ⟨hi0, hi1⟩, _⟩ := hm
  dsimp only at k0 k1 hi0 hi1 hk hr h0
  subst hk; subst hr
  rw [at_on]
  rcases (by omega : k = 0 ∨ k = 1 ∨ k = 2 ∨ k = 3 ∨ k = 5) with rfl | rfl | rfl | rfl | rfl
  · rw [wr_zero _ _ _ rfl]
    have hon := h0 rfl
    subst hon
    by_cases hR : 0 < r
    · left; simp [hR, offV, clV, isV]
    · right; left; simp [hR, offV, clV, isV]
  · have E : wrV (⟨1, n, r, on, mo, lo, hi, la⟩ : MV) 0 x = ⟨1, n, r, (x % 16 == 10), mo, lo, hi, la⟩ := by unfold wrV; dsimp only; rw [if_pos rfl, if_pos (by decide)]
    rw [E]
    right; right
    cases hx : (x % 16 == 10)
    · right; right; left; cases mo <;> simp [offV, clV, isV]
    · by_cases hR : 0 < r
      · left; cases mo <;> simp [hR, offV, clV, isV]
      · right; left; cases mo <;> simp [hR, offV, clV, isV]
  · have E : wrV (⟨2, n, r, on, mo, lo, hi, la⟩ : MV) 0 x = ⟨2, n, r, (x % 16 == 10), mo, lo, hi, la⟩ := by unfold wrV; dsimp only; rw [if_neg (by decide), if_pos rfl, if_pos (by decide), if_pos (by decide)]
    rw [E]
    right; right
    cases hx : (x % 16 == 10)
    · right; right; left; simp [offV, clV, isV]
    · by_cases hR : 0 < r
      · left; simp [hR, offV, clV, isV]
      · right; left; simp [hR, offV, clV, isV]
  · have E : wrV (⟨3, n, r, on, mo, lo, hi, la⟩ : MV) 0 x = ⟨3, n, r, (x % 16 == 10), mo, lo, hi, la⟩ := by unfold wrV; dsimp only; rw [if_neg (by decide), if_neg (by decide), if_pos rfl, if_pos (by decide)]
    rw [E]
    right; right; right; right; right
    by_cases h3 : 3 < hi
    · have o : offV (⟨3, n, r, (x % 16 == 10), mo, lo, hi, la⟩ : MV) 40960 = none := by unfold offV; dsimp only; rw [if_neg (by decide), if_neg (by decide), if_neg (by decide), if_pos rfl, if_pos h3]
      rw [o]
      right; right; right
      cases hx : (x % 16 == 10)
      · right; right; right; simp [clV, isV, h3]
      · by_cases h8 : hi < 8
        · left; simp [clV, isV, h3, h8]
        · by_cases h12 : 12 < hi
          · right; right; left; simp [clV, isV, h8, h12]
          · right; left; simp [clV, isV, h8, h12]; omega
    · have o : (offV (⟨3, n, r, (x % 16 == 10), mo, lo, hi, la⟩ : MV) 40960).isSome = true := by unfold offV; dsimp only; rw [if_neg (by decide), if_neg (by decide), if_neg (by decide), if_pos rfl, if_neg h3]; rfl
      rw [o]
      have h8 : hi < 8 := by omega
      have h3' : hi ≤ 3 := by omega
      cases hx : (x % 16 == 10)
      · right; right; left; simp [clV, isV, h3']
      · by_cases hR : 0 < r
        · left; simp [clV, isV, h3', h8, hR]
        · right; left; simp [clV, isV, h3', h8, hR]
  · have E : wrV (⟨5, n, r, on, mo, lo, hi, la⟩ : MV) 0 x = ⟨5, n, r, (x % 16 == 10), mo, lo, hi, la⟩ := by unfold wrV; dsimp only; rw [if_neg (by decide), if_neg (by decide), if_neg (by decide), if_pos rfl, if_pos (by decide)]
    rw [E]
    right; right
    cases hx : (x % 16 == 10)
    · right; right; left; simp [offV, clV, isV]
    · by_cases hR : 0 < r
      · left; simp [hR, offV, clV, isV]
      · right; left; simp [hR, offV, clV, isV]
end Go.Proofs.Ytafmmffgenolaaa
