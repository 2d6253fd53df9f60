/-
  Plain data: a sprite, the sprites of a line, the uppermost one, a line of shades; no program, no condition.
-/
import Derived.Test.YtpfbodmadmneiaaPure
namespace Go.Proofs.Ytpfbodmadmneiaa
set_option linter.unusedVariables false
set_option linter.unusedSimpArgs false
def hgt (c : Int) : Int := if bit c 2 = 1 then 16 else 8
theorem hgt_is (c : Int) : hgt c = 8 ∨ hgt c = 16 := by unfold hgt; split <;> simp
def inV (c : Int) (O : M) (n : Nat) (line : Int) : Bool := decide (O (4 * n) - 16 ≤ line) && decide (line < O (4 * n) - 16 + hgt c)
def rowV (c h r : Int) : Int := if bit h 6 = 1 then hgt c - 1 - r else r
def colmV (h k : Int) : Int := if bit h 5 = 1 then 7 - k else k
def tileV (c t : Int) : Int := if bit c 2 = 1 then t / 2 * 2 else t
def paintV (V : M) (c t h k r : Int) : Int := dotV V (tileV c t + rowV c h r / 8) (colmV h k) (rowV c h r % 8)
theorem paintV_bd (V : M) (c t h k r : Int) : 0 ≤ paintV V c t h k r ∧ paintV V c t h k r < 4 := dotV_bd _ _ _ _
def colV (V O : M) (c : Int) (n : Nat) (x line : Int) : Int :=
  if inV c O n line = true ∧ O (4 * n + 1) - 8 ≤ x ∧ x < O (4 * n + 1) then paintV V c (O (4 * n + 2)) (O (4 * n + 3)) (x - (O (4 * n + 1) - 8)) (line - (O (4 * n) - 16)) else 0
theorem colV_bd (V O : M) (c : Int) (n : Nat) (x line : Int) : 0 ≤ colV V O c n x line ∧ colV V O c n x line < 4 := by
  unfold colV
  split
  · exact paintV_bd _ _ _ _ _ _
  · decide
/-- The colour of the sprite n at a place; 0: none. -/
def seeV (V O : M) (c n x line : Int) : Int := if 0 ≤ n ∧ n < 40 then colV V O c n.toNat x line else 0
theorem seeV_bd (V O : M) (c n x line : Int) : 0 ≤ seeV V O c n x line ∧ seeV V O c n x line < 4 := by
  unfold seeV
  split
  · exact colV_bd _ _ _ _ _ _
  · decide
/-- The sprites of a line among the first t ones: how many, and which. -/
def scN (c : Int) (O : M) (line : Int) : Nat → Nat × M
  | 0 => (0, zeroM)
  | t + 1 => if (scN c O line t).1 < 10 ∧ inV c O t line = true then ((scN c O line t).1 + 1, upd (scN c O line t).2 (scN c O line t).1 (t : Int)) else scN c O line t
section
variable (c : Int) (O : M) (line : Int)
theorem sc_zero : scN c O line 0 = (0, zeroM) := rfl
theorem sc_yes (t : Nat) (h1 : (scN c O line t).1 < 10) (h2 : inV c O t line = true) : scN c O line (t + 1) = ((scN c O line t).1 + 1, upd (scN c O line t).2 (scN c O line t).1 (t : Int)) := if_pos ⟨h1, h2⟩
theorem sc_no (t : Nat) (h : ¬ ((scN c O line t).1 < 10 ∧ inV c O t line = true)) : scN c O line (t + 1) = scN c O line t := if_neg h
theorem sc_le : ∀ t, (scN c O line t).1 ≤ 10 ∧ (scN c O line t).1 ≤ t
  | 0 => by simp [scN]
  | t + 1 => by
    have := sc_le t
    by_cases h : (scN c O line t).1 < 10 ∧ inV c O t line = true
    · rw [sc_yes c O line t h.1 h.2]; dsimp only; omega
    · rw [sc_no c O line t h]; omega
theorem sc_at : ∀ t j, j < (scN c O line t).1 → 0 ≤ (scN c O line t).2 j ∧ (scN c O line t).2 j < t
  | 0, j, h => by simp [scN] at h
  | t + 1, j, h => by
    by_cases hh : (scN c O line t).1 < 10 ∧ inV c O t line = true
    · rw [sc_yes c O line t hh.1 hh.2] at h ⊢
      dsimp only at h ⊢
      unfold upd
      split
      · omega
      · have := sc_at t j (by omega); omega
    · rw [sc_no c O line t hh] at h ⊢
      have := sc_at t j h; omega
theorem sc_ge (t : Nat) : ∀ k, (scN c O line t).1 ≤ (scN c O line (t + k)).1 ∧ (∀ j, j < (scN c O line t).1 → (scN c O line (t + k)).2 j = (scN c O line t).2 j) ∧ (∀ j, (scN c O line t).1 ≤ j → j < (scN c O line (t + k)).1 → (t : Int) ≤ (scN c O line (t + k)).2 j)
  | 0 => ⟨Nat.le_refl _, fun _ _ => rfl, fun j h1 h2 => by rw [Nat.add_zero] at h2; omega⟩
  | k + 1 => by
    obtain ⟨h1, h2, h3⟩ := sc_ge t k
    rw [← Nat.add_assoc]
    by_cases hh : (scN c O line (t + k)).1 < 10 ∧ inV c O (t + k) line = true
    · rw [sc_yes c O line (t + k) hh.1 hh.2]
      dsimp only
      refine ⟨by omega, fun j hj => ?_, fun j hj hk => ?_⟩
      · unfold upd; rw [if_neg (by omega)]; exact h2 j hj
      · unfold upd
        split
        · omega
        · exact h3 j hj (by omega)
    · rw [sc_no c O line (t + k) hh]
      exact ⟨h1, h2, h3⟩
theorem sc_stop (t : Nat) (h : (scN c O line t).1 = 10) : ∀ k, scN c O line (t + k) = scN c O line t
  | 0 => rfl
  | k + 1 => by
    rw [← Nat.add_assoc, sc_no c O line (t + k) (by rw [sc_stop t h k, h]; omega)]
    exact sc_stop t h k
theorem sc_full (t : Nat) (ht : t ≤ 40) (h : (scN c O line t).1 = 10) : scN c O line 40 = scN c O line t := by
  have := sc_stop c O line t h (40 - t)
  rwa [show t + (40 - t) = 40 by omega] at this
theorem sc_told (t : Nat) (ht : t < 40) : ((scN c O line t).1 < (scN c O line 40).1 ∧ (scN c O line 40).2 (scN c O line t).1 = (t : Int)) ↔ ((scN c O line t).1 < 10 ∧ inV c O t line = true) := by
  have h := sc_ge c O line (t + 1) (40 - (t + 1))
  rw [show t + 1 + (40 - (t + 1)) = 40 by omega] at h
  by_cases hh : (scN c O line t).1 < 10 ∧ inV c O t line = true
  · rw [sc_yes c O line t hh.1 hh.2] at h
    dsimp only at h
    refine ⟨fun _ => hh, fun _ => ⟨by omega, ?_⟩⟩
    rw [h.2.1 _ (by omega)]
    unfold upd
    rw [if_pos rfl]
  · rw [sc_no c O line t hh] at h
    refine ⟨fun ⟨q1, q2⟩ => ?_, fun q => absurd q hh⟩
    have := h.2.2 _ (Nat.le_refl _) q1
    omega
theorem sc_none (h : ∀ n, n < 40 → inV c O n line = false) : ∀ t, t ≤ 40 → scN c O line t = (0, zeroM)
  | 0, _ => rfl
  | t + 1, ht => by
    rw [sc_no c O line t (by rw [h t (by omega)]; simp)]
    exact sc_none h t (by omega)
end
/-- The best one of the first t: the one with the least key, of several the first one; below 0: there is none. -/
def bestN (p : Int → Bool) (key : Int → Int) (A : M) : Nat → Int
  | 0 => -1
  | t + 1 => if p (A t) = true ∧ (bestN p key A t < 0 ∨ key (A t) < key (bestN p key A t)) then A t else bestN p key A t
/-- The first one. -/
def fstN (p : Int → Bool) (A : M) : Nat → Int
  | 0 => -1
  | t + 1 => if fstN p A t < 0 ∧ p (A t) = true then A t else fstN p A t
section
variable (p : Int → Bool) (key : Int → Int)
theorem best_step (A : M) (t : Nat) : bestN p key A (t + 1) = if p (A t) = true ∧ (bestN p key A t < 0 ∨ key (A t) < key (bestN p key A t)) then A t else bestN p key A t := rfl
theorem fst_step (A : M) (t : Nat) : fstN p A (t + 1) = if fstN p A t < 0 ∧ p (A t) = true then A t else fstN p A t := rfl
theorem best_congr (A B : M) : ∀ t, (∀ j, j < t → A j = B j) → bestN p key A t = bestN p key B t
  | 0, _ => rfl
  | t + 1, h => by rw [best_step, best_step, best_congr A B t (fun j hj => h j (by omega)), h t (by omega)]
theorem best_in (A : M) : ∀ t, (∀ j, j < t → 0 ≤ A j) → 0 ≤ bestN p key A t → p (bestN p key A t) = true ∧ ∃ j, j < t ∧ bestN p key A t = A j
  | 0, _, h => by simp [bestN] at h
  | t + 1, h0, h => by
    rw [best_step] at h ⊢
    split
    · rename_i hh
      exact ⟨hh.1, t, by omega, rfl⟩
    · rename_i hh
      rw [if_neg hh] at h
      obtain ⟨h1, j, h2, h3⟩ := best_in A t (fun j hj => h0 j (by omega)) h
      exact ⟨h1, j, by omega, h3⟩
theorem fst_in (A : M) : ∀ t, (∀ j, j < t → 0 ≤ A j) → 0 ≤ fstN p A t → p (fstN p A t) = true ∧ ∃ j, j < t ∧ fstN p A t = A j
  | 0, _, h => by simp [fstN] at h
  | t + 1, h0, h => by
    rw [fst_step] at h ⊢
    split
    · rename_i hh
      exact ⟨hh.2, t, by omega, rfl⟩
    · rename_i hh
      rw [if_neg hh] at h
      obtain ⟨h1, j, h2, h3⟩ := fst_in A t (fun j hj => h0 j (by omega)) h
      exact ⟨h1, j, by omega, h3⟩
/-- Two that stand side by side are exchanged, as the second one has the lesser key: the best one stays. -/
def swapM (A : M) (j : Nat) : M := upd (upd A (j + 1) (A j)) j (A (j + 1))
theorem swap_lo (A : M) (j : Nat) : swapM A j j = A (j + 1) := if_pos rfl
theorem swap_hi (A : M) (j : Nat) : swapM A j (j + 1) = A j := by
  unfold swapM upd
  rw [if_neg (by omega), if_pos rfl]
theorem swap_el (A : M) (j k : Nat) (h1 : k ≠ j) (h2 : k ≠ j + 1) : swapM A j k = A k := by
  unfold swapM upd
  rw [if_neg h1, if_neg h2]
theorem best_swap (A : M) (j : Nat) (h0 : 0 ≤ A j) (h1 : 0 ≤ A (j + 1)) (hk : key (A (j + 1)) < key (A j)) : ∀ t, j + 2 ≤ t → bestN p key (swapM A j) t = bestN p key A t
  | 0, h => by omega
  | t + 1, h => by
    by_cases e : t = j + 1
    · subst e
      rw [best_step, best_step, best_step, best_step, swap_lo, swap_hi, best_congr p key (swapM A j) A j (fun i hi => swap_el A j i (by omega) (by omega))]
      generalize bestN p key A j = b
      generalize A j = x at h0 hk ⊢
      generalize A (j + 1) = y at h1 hk ⊢
      clear h
      by_cases px : p x = true <;> by_cases py : p y = true
      · by_cases b0 : b < 0
        · rw [if_pos (show p y = true ∧ (b < 0 ∨ key y < key b) from ⟨py, .inl b0⟩), if_pos (show p x = true ∧ (b < 0 ∨ key x < key b) from ⟨px, .inl b0⟩), if_neg (by omega), if_pos ⟨py, by omega⟩]
        · by_cases y1 : key y < key b
          · rw [if_pos (show p y = true ∧ (b < 0 ∨ key y < key b) from ⟨py, .inr y1⟩), if_neg (by omega)]
            by_cases x1 : key x < key b
            · rw [if_pos (show p x = true ∧ (b < 0 ∨ key x < key b) from ⟨px, .inr x1⟩), if_pos ⟨py, by omega⟩]
            · rw [if_neg (show ¬ (p x = true ∧ (b < 0 ∨ key x < key b)) by omega), if_pos ⟨py, .inr y1⟩]
          · rw [if_neg (show ¬ (p y = true ∧ (b < 0 ∨ key y < key b)) by omega), if_neg (show ¬ (p x = true ∧ (b < 0 ∨ key x < key b)) by omega), if_neg (by omega)]
      · simp [py]
      · simp [px]
      · simp [px, py]
    · rw [best_step, best_step, best_swap A j h0 h1 hk t (by omega), swap_el A j t (by omega) (by omega)]
theorem best_fst (A : M) (L : Nat) (h0 : ∀ j, j < L → 0 ≤ A j) (hs : ∀ i j, i ≤ j → j < L → key (A i) ≤ key (A j)) : ∀ t, t ≤ L → bestN p key A t = fstN p A t
  | 0, _ => rfl
  | t + 1, ht => by
    have ih := best_fst A L h0 hs t (by omega)
    rw [best_step, fst_step, ← ih]
    by_cases b0 : bestN p key A t < 0
    · simp [b0]
    · obtain ⟨_, j, hj, e⟩ := best_in p key A t (fun j hj => h0 j (by omega)) (by omega)
      have := hs j t (by omega) (by omega)
      rw [e]
      rw [if_neg (show ¬ (p (A t) = true ∧ (A j < 0 ∨ key (A t) < key (A j))) by have := h0 j (by omega); omega), if_neg (by have := h0 j (by omega); omega)]
end
/-- Neighbours in order: all in order. -/
theorem rise_all (f : Nat → Int) (L : Nat) (h : ∀ k, k + 1 < L → f k ≤ f (k + 1)) (i : Nat) : ∀ d, i + d < L → f i ≤ f (i + d)
  | 0, _ => Int.le_refl _
  | d + 1, hd => Int.le_trans (rise_all f L h i d (by omega)) (h (i + d) (by omega))
/-- What the sort keeps: the row A stands for the row S. -/
structure Same (key : Int → Int) (S A : M) (L : Nat) : Prop where
  bd : ∀ j, j < L → 0 ≤ A j ∧ A j < 40
  best : ∀ p, bestN p key A L = bestN p key S L
theorem Same.swap {key : Int → Int} {S A : M} {L : Nat} (h : Same key S A L) (j : Nat) (hj : j + 1 < L) (hk : key (A (j + 1)) < key (A j)) : Same key S (swapM A j) L :=
  ⟨fun i hi => by
    by_cases e : i = j
    · subst e; rw [swap_lo]; exact h.bd _ hj
    · by_cases e2 : i = j + 1
      · subst e2; rw [swap_hi]; exact h.bd _ (by omega)
      · rw [swap_el A j i e e2]; exact h.bd i hi,
   fun p => (best_swap p key A j (h.bd j (by omega)).1 (h.bd (j + 1) hj).1 hk L (by omega)).trans (h.best p)⟩
/-- The first i in order. -/
def Upto (key : Int → Int) (A : M) (i : Nat) : Prop := ∀ k, k + 1 < i → key (A k) ≤ key (A (k + 1))
/-- The first i + 1 in order, but that the one at j may be less than those ahead of it. -/
def Sink (key : Int → Int) (A : M) (i j : Nat) : Prop := (∀ k, k + 1 ≤ i → k + 1 ≠ j → key (A k) ≤ key (A (k + 1))) ∧ (∀ k, k + 1 = j → j < i → key (A k) ≤ key (A (j + 1)))
theorem Upto.sink {key : Int → Int} {A : M} {i : Nat} (h : Upto key A i) : Sink key A i i := ⟨fun k h1 h2 => h k (by omega), fun k h1 h2 => by omega⟩
theorem Sink.done {key : Int → Int} {A : M} {i j : Nat} (h : Sink key A i j) (hs : ∀ k, k + 1 = j → ¬ key (A j) < key (A k)) : Upto key A (i + 1) := fun k hk => by
  by_cases e : k + 1 = j
  · have := hs k e; subst e; omega
  · exact h.1 k (by omega) e
theorem Sink.swap {key : Int → Int} {A : M} {i j : Nat} (h : Sink key A i (j + 1)) (hj : j + 1 ≤ i) (hk : key (A (j + 1)) < key (A j)) : Sink key (swapM A j) i j := by
  refine ⟨fun k h1 h2 => ?_, fun k h1 h2 => ?_⟩
  · by_cases e : k = j
    · subst e; rw [swap_lo, swap_hi]; omega
    · by_cases e2 : k = j + 1
      · subst e2
        rw [swap_hi, swap_el A j (j + 1 + 1) (by omega) (by omega)]
        exact h.2 j rfl (by omega)
      · rw [swap_el A j k (by omega) (by omega), swap_el A j (k + 1) (by omega) (by omega)]
        exact h.1 k h1 (by omega)
  · subst h1
    rw [swap_hi, swap_el A (k + 1) k (by omega) (by omega)]
    exact h.1 k (by omega) (by omega)
/-- What a row in order tells. -/
theorem Same.fst {key : Int → Int} {S A : M} {L : Nat} (h : Same key S A L) (hs : Upto key A L) (p : Int → Bool) : fstN p A L = bestN p key S L := by
  rw [← h.best p, best_fst p key A L (fun j hj => (h.bd j hj).1) (fun i j hij hj => ?_) L (Nat.le_refl _)]
  have := rise_all (fun k => key (A k)) L hs i (j - i) (by omega)
  rwa [show i + (j - i) = j by omega] at this
def keyV (O : M) : Int → Int := fun a => O (4 * a.toNat + 1)
def howV (O : M) : Int → Int := fun a => O (4 * a.toNat + 3)
def seesV (V O : M) (c line : Int) (x : Nat) : Int → Bool := fun a => decide (seeV V O c a x line ≠ 0)
def topV (V O : M) (c line : Int) (x : Nat) : Int := bestN (seesV V O c line x) (keyV O) (scN c O line 40).2 (scN c O line 40).1
/-- The dots of the first m sprites of a row. -/
def dotN (V O : M) (c line : Int) (A : M) (m : Nat) : M := fun i => if i < 320 then (if fstN (seesV V O c line (i / 2)) A m < 0 then 0 else if i % 2 = 0 then seeV V O c (fstN (seesV V O c line (i / 2)) A m) ((i / 2 : Nat) : Int) line else howV O (fstN (seesV V O c line (i / 2)) A m)) else 0
section
variable (V O : M) (c line : Int) (A : M)
theorem dts_lo (m x : Nat) (hx : x < 160) : dotN V O c line A m (2 * x) = if fstN (seesV V O c line x) A m < 0 then 0 else seeV V O c (fstN (seesV V O c line x) A m) x line := by
  unfold dotN
  rw [if_pos (by omega), show 2 * x / 2 = x by omega, show 2 * x % 2 = 0 by omega, if_pos (show (0 : Nat) = 0 from rfl)]
theorem dts_hi (m x : Nat) (hx : x < 160) : dotN V O c line A m (2 * x + 1) = if fstN (seesV V O c line x) A m < 0 then 0 else howV O (fstN (seesV V O c line x) A m) := by
  unfold dotN
  rw [if_pos (by omega), show (2 * x + 1) / 2 = x by omega, if_neg (show ¬ (2 * x + 1) % 2 = 0 by omega)]
theorem dts_zero : dotN V O c line A 0 = zeroM := by
  funext i
  unfold dotN fstN zeroM
  split <;> rfl
theorem dts_free (m x : Nat) (hx : x < 160) (h0 : ∀ j, j < m → 0 ≤ A j) : dotN V O c line A m (2 * x) = 0 ↔ fstN (seesV V O c line x) A m < 0 := by
  rw [dts_lo V O c line A m x hx]
  by_cases h : fstN (seesV V O c line x) A m < 0
  · simp [h]
  · rw [if_neg h]
    have := (fst_in (seesV V O c line x) A m h0 (by omega)).1
    have := of_decide_eq_true (show decide (seeV V O c (fstN (seesV V O c line x) A m) x line ≠ 0) = true from this)
    exact ⟨fun e => absurd e this, fun e => absurd e h⟩
/-- The first t places as the second line of dots, the others as the first one. -/
def mixV (D E : M) (t : Nat) : M := fun i => if i / 2 < t then E i else D i
theorem mix_put (D E : M) (t : Nat) : upd (upd (mixV D E t) (2 * t) (E (2 * t))) (2 * t + 1) (E (2 * t + 1)) = mixV D E (t + 1) := by
  funext i
  unfold upd mixV
  by_cases h1 : i = 2 * t + 1
  · subst h1; rw [if_pos rfl, if_pos (by omega)]
  · rw [if_neg h1]
    by_cases h2 : i = 2 * t
    · subst h2; rw [if_pos rfl, if_pos (by omega)]
    · rw [if_neg h2]
      by_cases h3 : i / 2 < t
      · rw [if_pos h3, if_pos (by omega)]
      · rw [if_neg h3, if_neg (by omega)]
theorem mix_pass (D E : M) (t : Nat) (h1 : E (2 * t) = D (2 * t)) (h2 : E (2 * t + 1) = D (2 * t + 1)) : mixV D E t = mixV D E (t + 1) := by
  funext i
  unfold mixV
  by_cases h3 : i / 2 < t
  · rw [if_pos h3, if_pos (by omega)]
  · rw [if_neg h3]
    by_cases h4 : i / 2 < t + 1
    · rw [if_pos h4]
      rcases (show i = 2 * t ∨ i = 2 * t + 1 by omega) with rfl | rfl
      · exact h1.symm
      · exact h2.symm
    · rw [if_neg h4]
theorem mix_at (D E : M) (t : Nat) : mixV D E t (2 * t) = D (2 * t) := by
  unfold mixV
  rw [if_neg (by omega)]
theorem mix_lo (D E : M) (t : Nat) (h : ∀ i, i / 2 < t → E i = D i) : mixV D E t = D := by
  funext i
  unfold mixV
  split
  · exact h i (by assumption)
  · rfl
theorem mix_hi (D E : M) (t : Nat) (h : ∀ i, ¬ i / 2 < t → E i = D i) : mixV D E t = E := by
  funext i
  unfold mixV
  split
  · rfl
  · exact (h i (by assumption)).symm
theorem see_col (n x : Int) (h : seeV V O c n x line ≠ 0) : O (4 * n.toNat + 1) - 8 ≤ x ∧ x < O (4 * n.toNat + 1) := by
  unfold seeV colV at h
  split at h
  · split at h
    · rename_i hh; exact hh.2
    · exact absurd rfl h
  · exact absurd rfl h
/-- One sprite more, where it isn't seen, or another one is. -/
theorem dts_pass (m x : Nat) (hx : x < 160) (h0 : ∀ j, j < m → 0 ≤ A j) (h : ¬ (seeV V O c (A m) x line ≠ 0 ∧ dotN V O c line A m (2 * x) = 0)) :
    dotN V O c line A (m + 1) (2 * x) = dotN V O c line A m (2 * x) ∧ dotN V O c line A (m + 1) (2 * x + 1) = dotN V O c line A m (2 * x + 1) := by
  have e : fstN (seesV V O c line x) A (m + 1) = fstN (seesV V O c line x) A m := by
    rw [fst_step]
    refine if_neg fun hh => h ⟨?_, (dts_free V O c line A m x hx h0).2 hh.1⟩
    have := hh.2
    unfold seesV at this
    simpa using this
  rw [dts_lo V O c line A _ x hx, dts_lo V O c line A _ x hx, dts_hi V O c line A _ x hx, dts_hi V O c line A _ x hx, e]
  exact ⟨rfl, rfl⟩
/-- One sprite more, where it is seen, and no other one is. -/
theorem dts_put (m x : Nat) (hx : x < 160) (h0 : ∀ j, j < m + 1 → 0 ≤ A j) (h1 : seeV V O c (A m) x line ≠ 0) (h2 : dotN V O c line A m (2 * x) = 0) :
    dotN V O c line A (m + 1) (2 * x) = seeV V O c (A m) x line ∧ dotN V O c line A (m + 1) (2 * x + 1) = howV O (A m) := by
  have hf := (dts_free V O c line A m x hx (fun j hj => h0 j (by omega))).1 h2
  have e : fstN (seesV V O c line x) A (m + 1) = A m := by
    rw [fst_step]
    exact if_pos ⟨hf, by unfold seesV; simpa using h1⟩
  have hm := h0 m (by omega)
  rw [dts_lo V O c line A _ x hx, dts_hi V O c line A _ x hx, e, if_neg (by omega), if_neg (by omega)]
  exact ⟨rfl, rfl⟩
theorem dts_same (m i : Nat) (h0 : ∀ j, j < m → 0 ≤ A j) (h : ¬ (O (4 * (A m).toNat + 1) - 8 ≤ ((i / 2 : Nat) : Int) ∧ ((i / 2 : Nat) : Int) < O (4 * (A m).toNat + 1)) ∨ 160 ≤ i / 2) : dotN V O c line A (m + 1) i = dotN V O c line A m i := by
  by_cases hi : i < 320
  · have := dts_pass V O c line A m (i / 2) (by omega) h0 (fun hh => by
      have := see_col V O c line _ _ hh.1
      omega)
    rcases (show i = 2 * (i / 2) ∨ i = 2 * (i / 2) + 1 by omega) with e | e
    · rw [e]; exact this.1
    · rw [e]; exact this.2
  · unfold dotN
    rw [if_neg hi, if_neg hi]
end
/-- A place's shade: of a dot with a colour and attributes, above a colour. -/
def shadeAt (bk f s u colour how : Int) : Int := if colour = 0 ∨ (bit how 7 = 1 ∧ u % 4 ≠ 0) then shadeV bk u else if bit how 4 = 1 then shadeV s colour else shadeV f colour
def outV (c bk f s : Int) (V O : M) (line : Int) (U : M) : M := fun x =>
  if bit c 1 = 0 ∨ topV V O c line x < 0 then shadeV bk (U x) else shadeAt bk f s (U x) (seeV V O c (topV V O c line x) x line) (howV O (topV V O c line x))
/-- What the program's dots tell. -/
theorem out_dots (c bk f s : Int) (V O : M) (line : Int) (U A : M) (L : Nat) (hL : L = (scN c O line 40).1) (h : Same (keyV O) (scN c O line 40).2 A L) (hs : Upto (keyV O) A L) (x : Nat) (hx : x < 160) (h1 : bit c 1 ≠ 0) :
    shadeAt bk f s (U x) (dotN V O c line A L (2 * x)) (dotN V O c line A L (2 * x + 1)) = outV c bk f s V O line U x := by
  have e : fstN (seesV V O c line x) A L = topV V O c line x := by
    unfold topV
    rw [h.fst hs, hL]
  rw [dts_lo V O c line A L x hx, dts_hi V O c line A L x hx, e]
  unfold outV
  by_cases ht : topV V O c line x < 0
  · rw [if_pos ht, if_pos ht, if_pos (Or.inr ht)]
    exact if_pos (Or.inl rfl)
  · rw [if_neg ht, if_neg ht, if_neg (by omega)]
theorem out_dark (c bk f s : Int) (V O : M) (line : Int) (U : M) (x : Nat) (h1 : bit c 1 = 0) : shadeAt bk f s (U x) 0 0 = outV c bk f s V O line U x := by
  unfold outV
  rw [if_pos (Or.inl h1)]
  exact if_pos (Or.inl rfl)
theorem outV_bd (c bk f s : Int) (V O : M) (line : Int) (U : M) (x : Nat) : 0 ≤ outV c bk f s V O line U x ∧ outV c bk f s V O line U x < 4 := by
  unfold outV shadeAt
  split
  · exact shadeV_bd _ _
  · split
    · exact shadeV_bd _ _
    · split <;> exact shadeV_bd _ _
attribute [irreducible] scN
attribute [irreducible] bestN
attribute [irreducible] fstN
end Go.Proofs.Ytpfbodmadmneiaa
