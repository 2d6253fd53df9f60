/-
  Two sprites side by side: what is seen of them, where both are above all that is below; no program, no condition but that the line is one of the first eight.
-/
import Derived.Test.YtiekojnhkemjlaaUpr
import Derived.Test.YtiekojnhkemjlaaTurns
namespace Go.Proofs.Ytiekojnhkemjlaa
set_option linter.unusedVariables false
set_option linter.unusedSimpArgs false
/-- Eight bytes, and nothing behind them. -/
def twoM (A B : M) : M := fun k => if k < 4 then A k else if k < 8 then B (k - 4) else 0
theorem ok_two {A B : M} (ha : okB A) (hb : okB B) : okB (twoM A B) := fun k => by
  unfold twoM
  split
  · exact ha _
  · split
    · exact hb _
    · decide
def onlyM (A : M) : M := fun k => if k < 4 then A k else 0
theorem only_lit (p q r s : Int) : onlyM (litM p q r s) = litM p q r s := by
  funext k
  unfold onlyM litM
  by_cases h : k < 4
  · rw [if_pos h]
  · rw [if_neg h, if_neg (by omega), if_neg (by omega), if_neg (by omega), if_neg (by omega)]
section
variable (V A B : M) (c line : Int)
theorem in_first (O : M) (n : Nat) (h : O (4 * n) = 16) (l0 : 0 ≤ line) (l1 : line < 8) : inV c O n line = true := by
  unfold inV
  have := hgt_is c
  rw [h, decide_eq_true (show (16 : Int) - 16 ≤ line by omega), decide_eq_true (show line < 16 - 16 + hgt c by omega)]
  rfl
theorem in_none (O : M) (n : Nat) (h : O (4 * n) = 0) (l0 : 0 ≤ line) : inV c O n line = false := by
  unfold inV
  have := hgt_is c
  rw [h, decide_eq_false (show ¬ line < 0 - 16 + hgt c by omega), Bool.and_false]
theorem sc_rest (O : M) (t : Nat) (h : ∀ n, t ≤ n → inV c O n line = false) : ∀ k, scN c O line (t + k) = scN c O line t
  | 0 => rfl
  | k + 1 => by
    rw [← Nat.add_assoc, sc_no c O line (t + k) (by rw [h (t + k) (by omega)]; simp)]
    exact sc_rest O t h k
theorem sc_two (l0 : 0 ≤ line) (l1 : line < 8) (ha : A 0 = 16) (hb : B 0 = 16) : scN c (twoM A B) line 40 = (2, upd (upd zeroM 0 0) 1 1) := by
  rw [show 40 = 2 + 38 from rfl, sc_rest c line (twoM A B) 2 (fun n hn => in_none c line _ n (by unfold twoM; rw [if_neg (by omega), if_neg (by omega)]) l0)]
  have i0 : inV c (twoM A B) 0 line = true := in_first c line _ 0 (by show twoM A B 0 = 16; unfold twoM; rw [if_pos (by omega)]; exact ha) l0 l1
  have i1 : inV c (twoM A B) 1 line = true := in_first c line _ 1 (by show twoM A B 4 = 16; unfold twoM; rw [if_neg (by omega), if_pos (by omega)]; exact hb) l0 l1
  have s1 : scN c (twoM A B) line 1 = (1, upd zeroM 0 0) := by
    rw [sc_yes c _ line 0 (by rw [sc_zero]; decide) i0, sc_zero]; rfl
  rw [sc_yes c _ line 1 (by rw [s1]; decide) i1, s1]; rfl
theorem sc_one (l0 : 0 ≤ line) (l1 : line < 8) (ha : A 0 = 16) : scN c (onlyM A) line 40 = (1, upd zeroM 0 0) := by
  rw [show 40 = 1 + 39 from rfl, sc_rest c line (onlyM A) 1 (fun n hn => in_none c line _ n (by unfold onlyM; rw [if_neg (by omega)]) l0)]
  have i0 : inV c (onlyM A) 0 line = true := in_first c line _ 0 (by show onlyM A 0 = 16; unfold onlyM; rw [if_pos (by omega)]; exact ha) l0 l1
  rw [sc_yes c _ line 0 (by rw [sc_zero]; decide) i0, sc_zero]; rfl
theorem see_congr (O P : M) (n m x : Int) (hn : 0 ≤ n ∧ n < 40) (hm : 0 ≤ m ∧ m < 40) (h : ∀ k, k < 4 → O (4 * n.toNat + k) = P (4 * m.toNat + k)) : seeV V O c n x line = seeV V P c m x line := by
  have e0 : O (4 * n.toNat) = P (4 * m.toNat) := h 0 (by omega)
  have e1 := h 1 (by omega)
  have e2 := h 2 (by omega)
  have e3 := h 3 (by omega)
  unfold seeV
  rw [if_pos hn, if_pos hm]
  unfold colV inV
  rw [e0, e1, e2, e3]
theorem see_a (x : Int) : seeV V (twoM A B) c 0 x line = seeV V (onlyM A) c 0 x line :=
  see_congr V c line _ _ 0 0 x (by decide) (by decide) (fun k hk => by
    show twoM A B (0 + k) = onlyM A (0 + k)
    unfold twoM onlyM
    rw [if_pos (by omega), if_pos (by omega)])
theorem see_b (x : Int) : seeV V (twoM A B) c 1 x line = seeV V (onlyM B) c 0 x line :=
  see_congr V c line _ _ 1 0 x (by decide) (by decide) (fun k hk => by
    show twoM A B (4 + k) = onlyM B (0 + k)
    unfold twoM onlyM
    rw [if_neg (by omega), if_pos (by omega), if_pos (by omega), show 4 + k - 4 = 0 + k by omega])
theorem top_one (l0 : 0 ≤ line) (l1 : line < 8) (ha : A 0 = 16) (x : Nat) : topV V (onlyM A) c line x = if seeV V (onlyM A) c 0 x line ≠ 0 then 0 else -1 := by
  unfold topV
  rw [sc_one A c line l0 l1 ha]
  show bestN _ _ (upd zeroM 0 0) (0 + 1) = _
  rw [best_step, best_zero]
  have e : upd zeroM 0 0 0 = 0 := rfl
  rw [e]
  unfold seesV
  by_cases h : seeV V (onlyM A) c 0 x line ≠ 0
  · rw [if_pos ⟨decide_eq_true h, Or.inl (by decide)⟩, if_pos h]
  · rw [if_neg (fun hh => h (of_decide_eq_true hh.1)), if_neg h]
theorem top_two (l0 : 0 ≤ line) (l1 : line < 8) (ha : A 0 = 16) (hb : B 0 = 16) (x : Nat) : topV V (twoM A B) c line x =
    if seeV V (onlyM B) c 0 x line ≠ 0 ∧ (seeV V (onlyM A) c 0 x line = 0 ∨ B 1 < A 1) then 1 else if seeV V (onlyM A) c 0 x line ≠ 0 then 0 else -1 := by
  unfold topV
  rw [sc_two A B c line l0 l1 ha hb]
  show bestN _ _ (upd (upd zeroM 0 0) 1 1) (0 + 1 + 1) = _
  rw [best_step, best_step, best_zero]
  have e0 : upd (upd zeroM 0 0) 1 1 0 = 0 := rfl
  have e1 : upd (upd zeroM 0 0) 1 1 (0 + 1) = 1 := rfl
  have k0 : keyV (twoM A B) 0 = A 1 := by
    show twoM A B 1 = A 1
    unfold twoM
    rw [if_pos (by omega)]
  have k1 : keyV (twoM A B) 1 = B 1 := by
    show twoM A B 5 = B 1
    unfold twoM
    rw [if_neg (by omega), if_pos (by omega)]
  have p0 : seesV V (twoM A B) c line x 0 = decide (seeV V (onlyM A) c 0 x line ≠ 0) := by
    unfold seesV; rw [see_a]
  have p1 : seesV V (twoM A B) c line x 1 = decide (seeV V (onlyM B) c 0 x line ≠ 0) := by
    unfold seesV; rw [see_b]
  rw [e0, e1, p0, p1]
  by_cases h0 : seeV V (onlyM A) c 0 x line ≠ 0
  · rw [if_pos (show decide (seeV V (onlyM A) c 0 x line ≠ 0) = true ∧ ((-1 : Int) < 0 ∨ keyV (twoM A B) 0 < keyV (twoM A B) (-1)) from ⟨decide_eq_true h0, Or.inl (by decide)⟩), k0, k1, if_pos h0]
    by_cases h1 : seeV V (onlyM B) c 0 x line ≠ 0
    · by_cases h2 : B 1 < A 1
      · rw [if_pos ⟨decide_eq_true h1, Or.inr h2⟩, if_pos ⟨h1, Or.inr h2⟩]
      · rw [if_neg (fun hh => by rcases hh.2 with h | h; exact absurd h (by decide); exact h2 h), if_neg (fun hh => by rcases hh.2 with h | h; exact h0 h; exact h2 h)]
    · rw [if_neg (fun hh => h1 (of_decide_eq_true hh.1)), if_neg (fun hh => h1 hh.1)]
  · rw [if_neg (show ¬ (decide (seeV V (onlyM A) c 0 x line ≠ 0) = true ∧ ((-1 : Int) < 0 ∨ keyV (twoM A B) 0 < keyV (twoM A B) (-1))) from fun hh => h0 (of_decide_eq_true hh.1)), if_neg h0]
    by_cases h1 : seeV V (onlyM B) c 0 x line ≠ 0
    · rw [if_pos ⟨decide_eq_true h1, Or.inl (by decide)⟩, if_pos ⟨h1, Or.inl (Decidable.not_not.1 h0)⟩]
    · rw [if_neg (fun hh => h1 (of_decide_eq_true hh.1)), if_neg (fun hh => h1 hh.1)]
/-- The line of two sprites is, at each place, that of the one that is seen there. -/
theorem left_out (bk fi se : Int) (U : M) (l0 : 0 ≤ line) (l1 : line < 8) (ha : A 0 = 16) (hb : B 0 = 16) (h1 : bit c 1 = 1) (x : Nat) :
    outV c bk fi se V (twoM A B) line U x = if seeV V (onlyM B) c 0 x line ≠ 0 ∧ (seeV V (onlyM A) c 0 x line = 0 ∨ B 1 < A 1) then outV c bk fi se V (onlyM B) line U x else outV c bk fi se V (onlyM A) line U x := by
  have hA : howV (twoM A B) 0 = howV (onlyM A) 0 := by
    show twoM A B 3 = onlyM A 3
    unfold twoM onlyM
    rw [if_pos (by omega), if_pos (by omega)]
  have hB : howV (twoM A B) 1 = howV (onlyM B) 0 := by
    show twoM A B 7 = onlyM B 3
    unfold twoM onlyM
    rw [if_neg (by omega), if_pos (by omega), if_pos (by omega)]
  unfold outV
  rw [top_two V A B c line l0 l1 ha hb x, top_one V A c line l0 l1 ha x, top_one V B c line l0 l1 hb x]
  by_cases h : seeV V (onlyM B) c 0 x line ≠ 0 ∧ (seeV V (onlyM A) c 0 x line = 0 ∨ B 1 < A 1)
  · rw [if_pos h, if_pos h, if_pos h.1, if_neg (by omega), if_neg (by omega), see_b, hB]
  · rw [if_neg h, if_neg h]
    by_cases h0 : seeV V (onlyM A) c 0 x line ≠ 0
    · rw [if_pos h0, if_neg (by omega), if_neg (by omega), see_a, hA]
    · rw [if_neg h0, if_pos (Or.inr (by decide)), if_pos (Or.inr (by decide))]
end
end Go.Proofs.Ytiekojnhkemjlaa
