/-
  A pack's length, against how many bytes are others and how often they begin: no program, no world, no condition.
-/
import Derived.Test.YtklbhbappaibgaaPure
namespace Go.Proofs.Ytklbhbappaibgaa
set_option linter.unusedVariables false
/-- How many bytes are others; how often they begin. -/
def oth : List Nat → List Nat → Nat
 | x :: xs, y :: ys => (if x = y then 0 else 1) + oth xs ys
 | _, _ => 0
def bg : Bool → List Nat → List Nat → Nat
 | p, x :: xs, y :: ys => if x = y then bg true xs ys else (if p = true then 1 else 0) + bg false xs ys
 | _, _, _ => 0
def othN : Nat → List Nat → List Nat → Nat
 | n + 1, x :: xs, y :: ys => (if x = y then 0 else 1) + othN n xs ys
 | _, _, _ => 0
def bgN : Nat → Bool → List Nat → List Nat → Nat
 | n + 1, p, x :: xs, y :: ys => if x = y then bgN n true xs ys else (if p = true then 1 else 0) + bgN n false xs ys
 | _, _, _, _ => 0
def flN : Nat → Bool → List Nat → List Nat → Bool
 | n + 1, p, x :: xs, y :: ys => if x = y then flN n true xs ys else flN n false xs ys
 | _, p, _, _ => p
theorem oth_nil (B : List Nat) : oth B [] = 0 := by cases B <;> rfl
theorem bg_nil (p : Bool) (B : List Nat) : bg p B [] = 0 := by cases B <;> rfl
theorem oth_split : ∀ (n : Nat) (B C : List Nat), B.length = C.length → oth B C = othN n B C + oth (B.drop n) (C.drop n)
 | 0, B, C, _ => by cases B <;> cases C <;> simp [othN]
 | n + 1, [], [], _ => rfl
 | n + 1, [], y :: ys, h => by simp at h
 | n + 1, x :: xs, [], h => by simp at h
 | n + 1, x :: xs, y :: ys, h => by
  have := oth_split n xs ys (by simpa using h)
  show (if x = y then 0 else 1) + oth xs ys = ((if x = y then 0 else 1) + othN n xs ys) + oth (xs.drop n) (ys.drop n)
  omega
theorem bg_split : ∀ (n : Nat) (p : Bool) (B C : List Nat), B.length = C.length → bg p B C = bgN n p B C + bg (flN n p B C) (B.drop n) (C.drop n)
 | 0, p, B, C, _ => by cases B <;> cases C <;> simp [bgN, flN]
 | n + 1, p, [], [], _ => rfl
 | n + 1, p, [], y :: ys, h => by simp at h
 | n + 1, p, x :: xs, [], h => by simp at h
 | n + 1, p, x :: xs, y :: ys, h => by
  have h1 := bg_split n true xs ys (by simpa using h)
  have h2 := bg_split n false xs ys (by simpa using h)
  by_cases e : x = y
  ·show (if x = y then bg true xs ys else _) = (if x = y then bgN n true xs ys else _) + bg (if x = y then flN n true xs ys else _) (xs.drop n) (ys.drop n)
   rw [if_pos e, if_pos e, if_pos e]; exact h1
  ·show (if x = y then _ else (if p = true then 1 else 0) + bg false xs ys) = (if x = y then _ else (if p = true then 1 else 0) + bgN n false xs ys) + bg (if x = y then _ else flN n false xs ys) (xs.drop n) (ys.drop n)
   rw [if_neg e, if_neg e, if_neg e]; omega
theorem oth_eq : ∀ (B C : List Nat), B.length = C.length → oth B C = oth (B.drop (eqR B C)) (C.drop (eqR B C))
 | [], [], _ => rfl
 | [], y :: ys, h => by simp at h
 | x :: xs, [], h => by simp at h
 | x :: xs, y :: ys, h => by
  have := oth_eq xs ys (by simpa using h)
  by_cases e : x = y
  ·rw [eqR, if_pos e]
   show (if x = y then 0 else 1) + oth xs ys = oth (xs.drop (eqR xs ys)) (ys.drop (eqR xs ys))
   rw [if_pos e]; omega
  ·rw [eqR, if_neg e]; rfl
theorem bg_eq : ∀ (p : Bool) (B C : List Nat), B.length = C.length → (p = true ∨ 0 < eqR B C) → bg p B C = bg true (B.drop (eqR B C)) (C.drop (eqR B C))
 | p, [], [], _, _ => by cases p <;> rfl
 | p, [], y :: ys, h, _ => by simp at h
 | p, x :: xs, [], h, _ => by simp at h
 | p, x :: xs, y :: ys, h, hp => by
  by_cases e : x = y
  ·have := bg_eq true xs ys (by simpa using h) (Or.inl rfl)
   rw [eqR, if_pos e]
   show (if x = y then bg true xs ys else _) = bg true (xs.drop (eqR xs ys)) (ys.drop (eqR xs ys))
   rw [if_pos e]; exact this
  ·rw [eqR, if_neg e] at hp ⊢
   rcases hp with hp | hp
   ·rw [hp]; rfl
   ·omega
theorem dR_cost : ∀ (B C : List Nat) (p : Bool), B.length = C.length → 0 < dR B C →
  (p = true → dR B C + 3 ≤ eqR B C + othN (dR B C) B C + 3 * bgN (dR B C) p B C) ∧ dR B C ≤ othN (dR B C) B C + 3 * bgN (dR B C) p B C
 | [], [], p, _, h => by simp [dR] at h
 | [], y :: ys, p, hl, h => by simp at hl
 | x :: xs, [], p, hl, h => by simp at hl
 | x :: xs, y :: ys, p, hl, h => by
  have hl' : xs.length = ys.length := by simpa using hl
  by_cases hs : 4 ≤ eqR (x :: xs) (y :: ys) ∨ eqR (x :: xs) (y :: ys) = (y :: ys).length
  ·rw [dR, if_pos hs] at h; omega
  have hd : dR (x :: xs) (y :: ys) = dR xs ys + 1 := by rw [dR, if_neg hs]
  have hle := eqR_le (x :: xs) (y :: ys)
  rw [hd]
  by_cases e : x = y
  ·have he : eqR (x :: xs) (y :: ys) = eqR xs ys + 1 := by rw [eqR, if_pos e]
   have ho : othN (dR xs ys + 1) (x :: xs) (y :: ys) = othN (dR xs ys) xs ys := by
    show (if x = y then 0 else 1) + othN (dR xs ys) xs ys = _
    rw [if_pos e, Nat.zero_add]
   have hb : bgN (dR xs ys + 1) p (x :: xs) (y :: ys) = bgN (dR xs ys) true xs ys := by
    show (if x = y then bgN (dR xs ys) true xs ys else _) = _
    rw [if_pos e]
   rw [he] at hs hle ⊢
   rw [ho, hb]
   simp only [List.length_cons] at hs hle
   have hpos : 0 < dR xs ys := by
    rcases Nat.eq_zero_or_pos (dR xs ys) with h0 | h0
    ·exfalso
     have h1 : eqR xs ys < 4 := by omega
     have h2 : eqR xs ys < ys.length := by omega
     have := dR_skip (eqR xs ys) xs ys hl' rfl h1 h2
     omega
    ·exact h0
   obtain ⟨i1, _⟩ := dR_cost xs ys true hl' hpos
   have := i1 rfl
   constructor
   ·intro _; omega
   ·omega
  ·have he : eqR (x :: xs) (y :: ys) = 0 := by rw [eqR, if_neg e]
   have ho : othN (dR xs ys + 1) (x :: xs) (y :: ys) = 1 + othN (dR xs ys) xs ys := by
    show (if x = y then 0 else 1) + othN (dR xs ys) xs ys = _
    rw [if_neg e]
   have hb : bgN (dR xs ys + 1) p (x :: xs) (y :: ys) = (if p = true then 1 else 0) + bgN (dR xs ys) false xs ys := by
    show (if x = y then _ else (if p = true then 1 else 0) + bgN (dR xs ys) false xs ys) = _
    rw [if_neg e]
   rw [he, ho, hb]
   have i2 : dR xs ys ≤ othN (dR xs ys) xs ys + 3 * bgN (dR xs ys) false xs ys := by
    rcases Nat.eq_zero_or_pos (dR xs ys) with h0 | h0
    ·rw [h0]; exact Nat.zero_le _
    ·exact (dR_cost xs ys false hl' h0).2
   constructor
   ·intro hp; rw [if_pos hp]; omega
   ·split <;> omega
theorem bgN_pos {B C : List Nat} {d : Nat} (hl : B.length = C.length) (h0 : eqR B C = 0) (hn : 0 < C.length) (hd : 0 < d) : 0 < bgN d true B C := by
 rcases C with _ | ⟨y, ys⟩
 ·simp at hn
 rcases B with _ | ⟨x, xs⟩
 ·simp at hl
 obtain ⟨d, rfl⟩ : ∃ k, d = k + 1 := ⟨d - 1, by omega⟩
 by_cases e : x = y
 ·rw [eqR, if_pos e] at h0; omega
 ·show 0 < (if x = y then _ else (if true = true then 1 else 0) + bgN d false xs ys)
  rw [if_neg e, if_pos rfl]; omega
theorem dR_at (n : Nat) : ∀ (B C : List Nat), C.length ≤ n → B.length = C.length → 4 ≤ eqR (B.drop (dR B C)) (C.drop (dR B C)) ∨ eqR (B.drop (dR B C)) (C.drop (dR B C)) = (C.drop (dR B C)).length := by
 induction n with
 | zero =>
  intro B C hn hl
  have e : C = [] := List.length_eq_zero_iff.1 (by omega)
  subst e
  refine Or.inr ?_
  simp [eqR_nil]
 | succ n ih =>
  intro B C hn hl
  match B, C, hl with
  | [], [], _ => exact Or.inr rfl
  | x :: xs, y :: ys, hl =>
   by_cases hs : 4 ≤ eqR (x :: xs) (y :: ys) ∨ eqR (x :: xs) (y :: ys) = (y :: ys).length
   ·rw [dR, if_pos hs]; exact hs
   ·rw [dR, if_neg hs]
    exact ih xs ys (by simpa using hn) (by simpa using hl)
theorem pk_small (n : Nat) : ∀ (B C : List Nat) (p : Bool), C.length ≤ n → B.length = C.length → C.length < 16384 → (p = true ∨ 0 < eqR B C ∨ C = []) → (pk B C).length ≤ oth B C + 9 * bg p B C + 2 := by
 induction n with
 | zero =>
  intro B C p hn hl hb hp
  have e : eqR B C = C.length := by have := eqR_le B C; omega
  have := num_len2 hb
  rw [pk_end e]; omega
 | succ n ih =>
  intro B C p hn hl hb hp
  have hle := eqR_le B C
  rcases Nat.lt_or_ge (eqR B C) C.length with hc | hc
  ·have hp2 : p = true ∨ 0 < eqR B C := by
    rcases hp with hp | hp | hp
    ·exact Or.inl hp
    ·exact Or.inr hp
    ·rw [hp] at hc; simp at hc
   have h1 := oth_eq B C hl
   have h2 := bg_eq p B C hl hp2
   have hz := @eqR_stop B C
   obtain ⟨e, he⟩ : ∃ e, eqR B C = e := ⟨_, rfl⟩
   rw [he] at hz hle hc h1 h2
   have hlX : (B.drop e).length = (C.drop e).length := by simp [hl]
   have hnX : 0 < (C.drop e).length := by simp; omega
   obtain ⟨d, hdd⟩ : ∃ d, dR (B.drop e) (C.drop e) = d := ⟨_, rfl⟩
   have hd : 0 < d := by rw [← hdd]; exact dR_pos hlX hz hnX
   have hdl : d ≤ C.length - e := by rw [← hdd]; have := dR_le (B.drop e) (C.drop e); simpa using this
   have h3 := oth_split d (B.drop e) (C.drop e) hlX
   have h4 := bg_split d true (B.drop e) (C.drop e) hlX
   have h5 := (dR_cost (B.drop e) (C.drop e) true hlX (by rw [hdd]; exact hd)).1 rfl
   rw [hdd, hz] at h5
   have h6 := bgN_pos hlX hz hnX hd
   have h7 := dR_at _ (B.drop e) (C.drop e) (Nat.le_refl _) hlX
   rw [hdd, List.drop_drop, List.drop_drop] at h7
   rw [List.drop_drop, List.drop_drop] at h3 h4
   have h8 := ih (B.drop (e + d)) (C.drop (e + d)) (flN d true (B.drop e) (C.drop e)) (by simp; omega) (by simp [hl]) (by simp; omega) (by
    rcases h7 with h7 | h7
    ·exact Or.inr (Or.inl (by omega))
    ·rcases Nat.eq_zero_or_pos (eqR (B.drop (e + d)) (C.drop (e + d))) with q | q
     ·exact Or.inr (Or.inr (List.length_eq_zero_iff.1 (by omega)))
     ·exact Or.inr (Or.inl q))
   have n1 := num_len2 (n := e) (by omega)
   have n2 := num_len2 (n := d) (by omega)
   rw [pk_more hl he hc hdd]
   simp only [List.length_append, List.length_take, List.length_drop]
   omega
  ·have e : eqR B C = C.length := by omega
   have := num_len2 hb
   rw [pk_end e]; omega
end Go.Proofs.Ytklbhbappaibgaa
