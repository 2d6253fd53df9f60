/-
  Plain data: a plan's keys, by its best change; the same in another order, and up to a later step; no program, no condition but those of each line.
-/
import Derived.Test.YtbpfeppgonhclaaPure
namespace Go.Proofs.Ytbpfeppgonhclaa
set_option linter.unusedVariables false
/-- The number of the best change of the first k ones, or -1. -/
def bst (f : Nat → Int) (x : Int) : Nat → Int
  | 0 => -1
  | k + 1 => if f k ≤ x ∧ (bst f x k < 0 ∨ f (bst f x k).toNat ≤ f k) then (k : Int) else bst f x k
/-- Its time, and its keys. -/
def atT (f : Nat → Int) (x : Int) (k : Nat) : Int := if bst f x k < 0 then 0 else f (bst f x k).toNat
def atD (f g : Nat → Int) (x : Int) (k : Nat) : Int := if bst f x k < 0 then 0 else g (bst f x k).toNat
theorem bst_lt (f : Nat → Int) (x : Int) : ∀ k : Nat, -1 ≤ bst f x k ∧ bst f x k < k
  | 0 => by simp [bst]
  | k + 1 => by
    have h := bst_lt f x k
    unfold bst
    split <;> omega
theorem bst_yes {f : Nat → Int} {x : Int} {k : Nat} (h1 : f k ≤ x) (h2 : bst f x k < 0 ∨ f (bst f x k).toNat ≤ f k) : bst f x (k + 1) = (k : Int) := by
  rw [bst, if_pos ⟨h1, h2⟩]
theorem bst_no1 {f : Nat → Int} {x : Int} {k : Nat} (h1 : ¬ f k ≤ x) : bst f x (k + 1) = bst f x k := by
  rw [bst, if_neg (fun h => h1 h.1)]
theorem bst_no2 {f : Nat → Int} {x : Int} {k : Nat} (h1 : ¬ bst f x k < 0) (h2 : ¬ f (bst f x k).toNat ≤ f k) : bst f x (k + 1) = bst f x k := by
  rw [bst, if_neg (fun h => h.2.elim h1 h2)]
theorem at_yes {f g : Nat → Int} {x : Int} {k : Nat} (h0 : 0 ≤ f k) (h1 : f k ≤ x) (h2 : atT f x k ≤ f k) : atT f x (k + 1) = f k ∧ atD f g x (k + 1) = g k := by
  have e : bst f x (k + 1) = (k : Int) := bst_yes h1 (by
    unfold atT at h2
    by_cases hb : bst f x k < 0
    · exact Or.inl hb
    · rw [if_neg hb] at h2; exact Or.inr h2)
  unfold atT atD
  rw [e, if_neg (by omega), if_neg (by omega), Int.toNat_natCast]
  exact ⟨rfl, rfl⟩
theorem at_no1 {f g : Nat → Int} {x : Int} {k : Nat} (h1 : ¬ f k ≤ x) : atT f x (k + 1) = atT f x k ∧ atD f g x (k + 1) = atD f g x k := by
  unfold atT atD; rw [bst_no1 h1]; exact ⟨rfl, rfl⟩
theorem at_no2 {f g : Nat → Int} {x : Int} {k : Nat} (h0 : 0 ≤ f k) (h2 : ¬ atT f x k ≤ f k) : atT f x (k + 1) = atT f x k ∧ atD f g x (k + 1) = atD f g x k := by
  have hb : ¬ bst f x k < 0 := by
    intro hb; unfold atT at h2; rw [if_pos hb] at h2; omega
  have e := bst_no2 (f := f) (x := x) (k := k) hb (by unfold atT at h2; rwa [if_neg hb] at h2)
  unfold atT atD; rw [e]; exact ⟨rfl, rfl⟩
theorem atD_bd {f g : Nat → Int} {x : Int} (hg : ∀ i, 0 ≤ g i ∧ g i < 256) (k : Nat) : 0 ≤ atD f g x k ∧ atD f g x k < 256 := by
  unfold atD; split
  · decide
  · exact hg _
theorem atT_bd {f : Nat → Int} {x : Int} (hf : ∀ i, 0 ≤ f i ∧ f i < 18446744073709551616) (k : Nat) : 0 ≤ atT f x k ∧ atT f x k < 18446744073709551616 := by
  unfold atT; split
  · decide
  · exact hf _
/-- What the best one is. -/
theorem bst_spec (f : Nat → Int) (x : Int) : ∀ k : Nat, (bst f x k < 0 → ∀ j, j < k → ¬ f j ≤ x) ∧ (¬ bst f x k < 0 → f (bst f x k).toNat ≤ x ∧ ∀ j, j < k → f j ≤ x → f j ≤ f (bst f x k).toNat)
  | 0 => by simp [bst]
  | k + 1 => by
    have ih := bst_spec f x k
    by_cases h1 : f k ≤ x
    · by_cases h2 : bst f x k < 0 ∨ f (bst f x k).toNat ≤ f k
      · rw [bst_yes h1 h2]
        refine ⟨fun h => by omega, fun _ => ?_⟩
        rw [Int.toNat_natCast]
        refine ⟨h1, fun j hj hx => ?_⟩
        by_cases e : j = k
        · rw [e]; exact Int.le_refl _
        · rcases h2 with h2 | h2
          · exact absurd hx (ih.1 h2 j (by omega))
          · by_cases hb : bst f x k < 0
            · exact absurd hx (ih.1 hb j (by omega))
            · exact Int.le_trans ((ih.2 hb).2 j (by omega) hx) h2
      · have hb : ¬ bst f x k < 0 := fun h => h2 (Or.inl h)
        have h3 : ¬ f (bst f x k).toNat ≤ f k := fun h => h2 (Or.inr h)
        rw [bst_no2 hb h3]
        refine ⟨fun h => absurd h hb, fun _ => ⟨(ih.2 hb).1, fun j hj hx => ?_⟩⟩
        by_cases e : j = k
        · rw [e]; omega
        · exact (ih.2 hb).2 j (by omega) hx
    · rw [bst_no1 h1]
      refine ⟨fun hb j hj => ?_, fun hb => ⟨(ih.2 hb).1, fun j hj hx => ?_⟩⟩
      · by_cases e : j = k
        · rw [e]; exact h1
        · exact ih.1 hb j (by omega)
      · by_cases e : j = k
        · rw [e] at hx; exact absurd hx h1
        · exact (ih.2 hb).2 j (by omega) hx
/-- Up to a step ahead of which nothing changes it stays. -/
theorem bst_stay (f : Nat → Int) (x y : Int) : ∀ k : Nat, (∀ j, j < k → (f j ≤ x ↔ f j ≤ y)) → bst f x k = bst f y k
  | 0, _ => rfl
  | k + 1, h => by
    have ih := bst_stay f x y k (fun j hj => h j (by omega))
    unfold bst
    rw [ih]
    simp only [h k (by omega)]
theorem atD_stay {f g : Nat → Int} {x y : Int} {k : Nat} (h : ∀ j, j < k → (f j ≤ x ↔ f j ≤ y)) : atD f g x k = atD f g y k := by
  unfold atD; rw [bst_stay f x y k h]
/-- In another order: s turns the numbers below k about, and no two times are alike. -/
theorem atD_turn {f g : Nat → Int} {x : Int} {k : Nat} (s : Nat → Nat) (hs : ∀ j, j < k → s j < k) (hss : ∀ j, j < k → s (s j) = j)
    (hd : ∀ i j, i < k → j < k → f i = f j → i = j) : atD (fun i => f (s i)) (fun i => g (s i)) x k = atD f g x k := by
  have A := bst_spec f x k
  have B := bst_spec (fun i => f (s i)) x k
  have la := bst_lt f x k
  have lb := bst_lt (fun i => f (s i)) x k
  unfold atD
  generalize bst f x k = a at A la ⊢
  generalize bst (fun i => f (s i)) x k = b at B lb ⊢
  by_cases ha : a < 0
  · have hb : b < 0 := by
      refine Decidable.byContradiction fun hb => ?_
      exact A.1 ha (s b.toNat) (hs _ (by omega)) (B.2 hb).1
    rw [if_pos ha, if_pos hb]
  · have hb : ¬ b < 0 := by
      intro hb
      have q : ¬ f (s (s a.toNat)) ≤ x := B.1 hb (s a.toNat) (hs _ (by omega))
      rw [hss a.toNat (by omega)] at q
      exact q (A.2 ha).1
    rw [if_neg ha, if_neg hb]
    show g (s b.toNat) = g a.toNat
    have e : f (s b.toNat) = f a.toNat := by
      have h1 := (A.2 ha).2 (s b.toNat) (hs _ (by omega)) (B.2 hb).1
      have h2 : f (s (s a.toNat)) ≤ x → f (s (s a.toNat)) ≤ f (s b.toNat) := (B.2 hb).2 (s a.toNat) (hs a.toNat (by omega))
      rw [hss a.toNat (by omega)] at h2
      exact Int.le_antisymm h1 (h2 (A.2 ha).1)
    have := hd _ _ (hs _ (by omega)) (by omega) e
    rw [this]
/-- The order that the law asks for. -/
def trn (n k i : Nat) : Nat := (n - 1 - i + k) % n
theorem trn_lt {n k i : Nat} (h : i < n) : trn n k i < n := Nat.mod_lt _ (by omega)
theorem trn_lo {n k i : Nat} (c : n - 1 - i + k < n) : trn n k i = n - 1 - i + k := Nat.mod_eq_of_lt c
theorem trn_hi {n k i : Nat} (hk : k < n) (c : ¬ n - 1 - i + k < n) : trn n k i = n - 1 - i + k - n := by
  unfold trn
  rw [Nat.mod_eq_sub_mod (by omega)]
  exact Nat.mod_eq_of_lt (by omega)
theorem trn_trn {n k i : Nat} (hk : k < n) (h : i < n) : trn n k (trn n k i) = i := by
  by_cases c : n - 1 - i + k < n
  · rw [trn_lo c]
    rw [trn_lo (by omega)]
    omega
  · rw [trn_hi hk c]
    rw [trn_hi hk (by omega)]
    omega
end Go.Proofs.Ytbpfeppgonhclaa
