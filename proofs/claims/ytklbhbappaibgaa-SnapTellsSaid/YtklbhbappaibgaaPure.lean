/-
  Plain data of packs: how far two rows of bytes are alike, runs of other bytes, numbers as bytes, the pack, what a reader of a pack answers: no program, no world, no condition.
-/
namespace Go.Proofs.Ytklbhbappaibgaa
set_option linter.unusedVariables false
theorem drop_cons {L : List Nat} {k x : Nat} (h : L[k]? = some x) : L.drop k = x :: L.drop (k + 1) := by
 obtain ⟨hk, rfl⟩ := List.getElem?_eq_some_iff.1 h
 exact List.drop_eq_getElem_cons hk
theorem at_lt {L : List Nat} {k x : Nat} (h : L[k]? = some x) : k < L.length := (List.getElem?_eq_some_iff.1 h).1
theorem at_ex {L : List Nat} {k : Nat} (h : k < L.length) : ∃ x, L[k]? = some x := ⟨L[k], List.getElem?_eq_getElem h⟩
/-- How many of the first bytes are alike. -/
def eqR : List Nat → List Nat → Nat
 | x :: xs, y :: ys => if x = y then eqR xs ys + 1 else 0
 | _, _ => 0
theorem eqR_nil (B : List Nat) : eqR B [] = 0 := by cases B <;> rfl
theorem eqR_le : ∀ (B C : List Nat), eqR B C ≤ C.length
 | [], C => by simp [eqR]
 | x :: xs, [] => by simp [eqR]
 | x :: xs, y :: ys => by
  have := eqR_le xs ys
  unfold eqR
  split
  ·simp; omega
  ·simp
theorem eqR_take : ∀ (B C : List Nat) , B.take (eqR B C) = C.take (eqR B C)
 | [], C => by simp [eqR]
 | x :: xs, [] => by simp [eqR]
 | x :: xs, y :: ys => by
  have := eqR_take xs ys
  unfold eqR
  split
  ·rename_i h; subst h; simp [this]
  ·simp
theorem eqR_self : ∀ (B : List Nat), eqR B B = B.length
 | [] => rfl
 | x :: xs => by rw [eqR, if_pos rfl, eqR_self xs]; rfl
theorem eqR_at {B C : List Nat} {k x y : Nat} (hB : B[k]? = some x) (hC : C[k]? = some y) : eqR (B.drop k) (C.drop k) = if x = y then eqR (B.drop (k + 1)) (C.drop (k + 1)) + 1 else 0 := by
 rw [drop_cons hB, drop_cons hC]; rfl
theorem eqR_split : ∀ (B C : List Nat) (k : Nat), k ≤ eqR B C → eqR B C = k + eqR (B.drop k) (C.drop k)
 | B, C, 0, _ => by simp
 | [], C, k + 1, h => by simp [eqR] at h
 | x :: xs, [], k + 1, h => by simp [eqR] at h
 | x :: xs, y :: ys, k + 1, h => by
  by_cases e : x = y
  ·rw [eqR, if_pos e] at h ⊢
   rw [eqR_split xs ys k (by omega)]
   show _ = k + 1 + eqR (xs.drop k) (ys.drop k)
   omega
  ·rw [eqR, if_neg e] at h
   omega
theorem eqR_stop {B C : List Nat} : eqR (B.drop (eqR B C)) (C.drop (eqR B C)) = 0 := by
 have := eqR_split B C (eqR B C) (Nat.le_refl _); omega
/-- How many bytes until four alike follow, or only alike ones. -/
def dR : List Nat → List Nat → Nat
 | x :: xs, y :: ys => if 4 ≤ eqR (x :: xs) (y :: ys) ∨ eqR (x :: xs) (y :: ys) = (y :: ys).length then 0 else dR xs ys + 1
 | _, _ => 0
theorem dR_stop : ∀ (B C : List Nat), 4 ≤ eqR B C ∨ eqR B C = C.length → dR B C = 0
 | [], _, _ => by simp [dR]
 | _ :: _, [], _ => by simp [dR]
 | x :: xs, y :: ys, h => by rw [dR, if_pos h]
theorem dR_step {x y : Nat} {xs ys : List Nat} (h4 : eqR (x :: xs) (y :: ys) < 4) (hl : eqR (x :: xs) (y :: ys) < (y :: ys).length) : dR (x :: xs) (y :: ys) = dR xs ys + 1 := by
 rw [dR, if_neg (by omega)]
theorem dR_skip : ∀ (m : Nat) (B C : List Nat), B.length = C.length → eqR B C = m → m < 4 → m < C.length → dR B C = m + 1 + dR (B.drop (m + 1)) (C.drop (m + 1))
 | _, [], [], _, _, _, h => by simp at h
 | _, [], y :: ys, hl, _, _, _ => by simp at hl
 | _, x :: xs, [], hl, _, _, _ => by simp at hl
 | 0, x :: xs, y :: ys, hl, h, h4, hm => by
  rw [dR_step (by omega) (by omega)]; simp; omega
 | m + 1, x :: xs, y :: ys, hl, h, h4, hm => by
  rw [dR_step (by omega) (by omega)]
  have hx : x = y := by
   rcases Nat.decEq x y with q | q
   ·rw [eqR, if_neg q] at h; omega
   ·exact q
  rw [eqR, if_pos hx] at h
  rw [dR_skip m xs ys (by simpa using hl) (by omega) (by omega) (by simpa using hm)]
  simp; omega
theorem dR_le : ∀ (B C : List Nat), dR B C ≤ C.length
 | [], _ => by simp [dR]
 | _ :: _, [] => by simp [dR]
 | x :: xs, y :: ys => by
  have := dR_le xs ys
  rw [dR]; split
  ·simp
  ·simp; omega
theorem dR_pos {B C : List Nat} (hl : B.length = C.length) (h : eqR B C = 0) (hn : 0 < C.length) : 0 < dR B C := by
 rw [dR_skip 0 B C hl h (by omega) hn]; omega
/-- A number as bytes. -/
def num (n : Nat) : List Nat := if n < 128 then [n] else (n % 128 + 128) :: num (n / 128)
termination_by n
decreasing_by omega
theorem num_lo {n : Nat} (h : n < 128) : num n = [n] := by rw [num, if_pos h]
theorem num_hi {n : Nat} (h : ¬ n < 128) : num n = (n % 128 + 128) :: num (n / 128) := by rw [num, if_neg h]
theorem num_byte (n : Nat) : ∀ x ∈ num n, x < 256 := by
 induction n using Nat.strongRecOn with
 | _ n ih =>
  by_cases h : n < 128
  ·rw [num_lo h]; intro x hx; simp at hx; omega
  ·rw [num_hi h]; intro x hx
   simp only [List.mem_cons] at hx
   rcases hx with rfl | hx
   ·omega
   ·exact ih (n / 128) (by omega) x hx
theorem num_pos (n : Nat) : 0 < (num n).length := by
 by_cases h : n < 128
 ·rw [num_lo h]; simp
 ·rw [num_hi h]; simp
theorem num_len : ∀ (f n : Nat), n < 128 ^ (f + 1) → (num n).length ≤ f + 1
 | 0, n, h => by rw [num_lo (by simpa using h)]; simp
 | f + 1, n, h => by
  by_cases hn : n < 128
  ·rw [num_lo hn]; simp
  ·rw [num_hi hn]
   have := num_len f (n / 128) (by rw [Nat.pow_succ] at h; omega)
   simp only [List.length_cons]; omega
theorem num_len2 {n : Nat} (h : n < 16384) : (num n).length ≤ 2 := num_len 1 n (by simpa using h)
/-- A number read: the error, the number, how many bytes. -/
def rdL : Nat → Nat → Nat → Nat → List Nat → Nat × Nat × Nat
 | 0, _, _, _, _ => (5, 0, 0)
 | _ + 1, _, _, _, [] => (2, 0, 0)
 | f + 1, i, s, n, x :: q => if x < 128 then (if 0 < i ∧ x = 0 then (5, 0, 0) else (0, n + x * s, i + 1)) else rdL f (i + 1) (s * 128) (n + x % 128 * s) q
def rd (p : List Nat) : Nat × Nat × Nat := rdL 4 0 1 0 p
theorem rdL_num (X : List Nat) : ∀ (f i s n m : Nat), (num m).length ≤ f → (0 < i → 0 < m) → rdL f i s n (num m ++ X) = (0, n + m * s, i + (num m).length)
 | 0, i, s, n, m, h, _ => by have := num_pos m; omega
 | f + 1, i, s, n, m, h, hi => by
  by_cases hm : m < 128
  ·rw [num_lo hm]
   show rdL (f + 1) i s n (m :: X) = _
   rw [rdL, if_pos hm, if_neg (by omega)]; rfl
  ·rw [num_hi hm] at h ⊢
   simp only [List.length_cons] at h
   show rdL (f + 1) i s n ((m % 128 + 128) :: (num (m / 128) ++ X)) = _
   rw [rdL, if_neg (by omega), rdL_num X f (i + 1) (s * 128) _ (m / 128) (by omega) (fun _ => by omega)]
   have e1 : (m % 128 + 128) % 128 = m % 128 := by omega
   have e2 : m * s = m % 128 * s + m / 128 * (s * 128) := by
    have e3 : m = m % 128 + m / 128 * 128 := by omega
    calc m * s = (m % 128 + m / 128 * 128) * s := by rw [← e3]
     _ = m % 128 * s + m / 128 * 128 * s := Nat.add_mul _ _ _
     _ = _ := by rw [Nat.mul_assoc, Nat.mul_comm 128 s]
   rw [e1, e2, List.length_cons, Nat.add_assoc, Nat.add_assoc, Nat.add_comm 1]
theorem rd_num {m : Nat} (h : m < 16384) (X : List Nat) : rd (num m ++ X) = (0, m, (num m).length) := by
 have h2 := num_len2 h
 unfold rd
 rw [rdL_num X 4 0 1 0 m (by omega) (fun h => absurd h (by omega))]
 simp
theorem rdL_ok : ∀ (f i s n : Nat) (p : List Nat) (m k : Nat), rdL f i s n p = (0, m, k) → i + 1 ≤ k ∧ k ≤ i + p.length
 | 0, i, s, n, p, m, k, h => by simp [rdL] at h
 | f + 1, i, s, n, [], m, k, h => by simp [rdL] at h
 | f + 1, i, s, n, x :: q, m, k, h => by
  rw [rdL] at h
  split at h
  ·split at h
   ·simp at h
   ·simp at h; simp; omega
  ·have := rdL_ok f (i + 1) _ _ q m k h
   simp; omega
theorem rd_ok {p : List Nat} {m k : Nat} (h : rd p = (0, m, k)) : 1 ≤ k ∧ k ≤ p.length := by
 have := rdL_ok 4 0 1 0 p m k h; omega
/-- A number read that may be at most so great. -/
def tk (p : List Nat) (most : Nat) : Nat × Nat × Nat := if (rd p).1 ≠ 0 then ((rd p).1, 0, 0) else if most < (rd p).2.1 then (6, 0, 0) else rd p
theorem tk_ok {p : List Nat} {most n k : Nat} (h : tk p most = (0, n, k)) : n ≤ most ∧ 1 ≤ k ∧ k ≤ p.length ∧ rd p = (0, n, k) := by
 unfold tk at h
 split at h
 ·rename_i h1; injection h with h2; exact absurd h2 h1
 ·split at h
  ·simp at h
  ·rename_i h1 h2
   have := rd_ok h
   rw [h] at h2
   simp at h2
   exact ⟨h2, this.1, this.2, h⟩
theorem tk_num {m most : Nat} (h : m < 16384) (hm : m ≤ most) (X : List Nat) : tk (num m ++ X) most = (0, m, (num m).length) := by
 unfold tk
 rw [rd_num h X]
 simp; omega
/-- The pack. -/
def pk (B C : List Nat) : List Nat :=
 num (eqR B C) ++ if h : eqR B C < C.length then
  num (dR (B.drop (eqR B C)) (C.drop (eqR B C))) ++ ((C.drop (eqR B C)).take (dR (B.drop (eqR B C)) (C.drop (eqR B C))) ++
   pk ((B.drop (eqR B C)).drop (max 1 (dR (B.drop (eqR B C)) (C.drop (eqR B C))))) ((C.drop (eqR B C)).drop (max 1 (dR (B.drop (eqR B C)) (C.drop (eqR B C))))))
 else []
termination_by C.length
decreasing_by simp; omega
theorem pk_end {B C : List Nat} (h : eqR B C = C.length) : pk B C = num C.length := by
 rw [pk, dif_neg (by omega), h]; simp
theorem pk_more {B C : List Nat} {e d : Nat} (hl : B.length = C.length) (he : eqR B C = e) (h : e < C.length) (hd : dR (B.drop e) (C.drop e) = d) :
  pk B C = num e ++ (num d ++ ((C.drop e).take d ++ pk (B.drop (e + d)) (C.drop (e + d)))) := by
 subst he; subst hd
 have hp : 0 < dR (B.drop (eqR B C)) (C.drop (eqR B C)) := dR_pos (by simp [hl]) (eqR_stop) (by simp; omega)
 conv => lhs; rw [pk]
 rw [dif_pos h, show max 1 (dR (B.drop (eqR B C)) (C.drop (eqR B C))) = dR (B.drop (eqR B C)) (C.drop (eqR B C)) by omega, List.drop_drop, List.drop_drop]
theorem pk_byte (n : Nat) : ∀ (B C : List Nat), C.length ≤ n → (∀ x ∈ C, x < 256) → ∀ x ∈ pk B C, x < 256 := by
 induction n with
 | zero =>
  intro B C hn hC x hx
  have e : eqR B C = C.length := by have := eqR_le B C; omega
  rw [pk_end e] at hx
  exact num_byte _ x hx
 | succ n ih =>
  intro B C hn hC x hx
  rw [pk] at hx
  rcases List.mem_append.1 hx with hx | hx
  ·exact num_byte _ x hx
  split at hx
  ·rcases List.mem_append.1 hx with hx | hx
   ·exact num_byte _ x hx
   rcases List.mem_append.1 hx with hx | hx
   ·exact hC x (List.mem_of_mem_drop (List.mem_of_mem_take hx))
   ·refine ih _ _ ?_ (fun y hy => hC y (List.mem_of_mem_drop (List.mem_of_mem_drop hy))) x hx
    simp; omega
  ·simp at hx
/-- What a reader of a pack answers: the error, the bytes, what lies behind; t: other bytes come. -/
def un (B O p : List Nat) (t : Bool) : Nat × List Nat × List Nat :=
 if (tk p (B.length - O.length)).1 ≠ 0 then ((tk p (B.length - O.length)).1, [], []) else
 if t = false then
  if (O ++ (B.drop O.length).take (tk p (B.length - O.length)).2.1).length = B.length then (0, O ++ (B.drop O.length).take (tk p (B.length - O.length)).2.1, p.drop (tk p (B.length - O.length)).2.2)
  else if h : (p.drop (tk p (B.length - O.length)).2.2).length < p.length then un B (O ++ (B.drop O.length).take (tk p (B.length - O.length)).2.1) (p.drop (tk p (B.length - O.length)).2.2) true else (9, [], [])
 else if (p.drop (tk p (B.length - O.length)).2.2).length < (tk p (B.length - O.length)).2.1 then (2, [], [])
  else if h : ((p.drop (tk p (B.length - O.length)).2.2).drop (tk p (B.length - O.length)).2.1).length < p.length then
   un B (O ++ (p.drop (tk p (B.length - O.length)).2.2).take (tk p (B.length - O.length)).2.1) ((p.drop (tk p (B.length - O.length)).2.2).drop (tk p (B.length - O.length)).2.1) false else (9, [], [])
termination_by p.length
decreasing_by
 all_goals exact h
theorem un_err {B O p : List Nat} {t : Bool} {e n k : Nat} (h : tk p (B.length - O.length) = (e, n, k)) (he : e ≠ 0) : un B O p t = (e, [], []) := by
 rw [un, h, if_pos he]
theorem len_take {B O : List Nat} {n : Nat} (hn : n ≤ B.length - O.length) : (O ++ (B.drop O.length).take n).length = O.length + n := by
 simp; omega
theorem un_last {B O p : List Nat} {n k : Nat} (h : tk p (B.length - O.length) = (0, n, k)) (hn : O.length + n = B.length) : un B O p false = (0, O ++ (B.drop O.length).take n, p.drop k) := by
 have hm := (tk_ok h).1
 rw [un, h, if_neg (by simp), if_pos rfl, if_pos (by rw [len_take hm]; exact hn)]
theorem un_eq {B O p : List Nat} {n k : Nat} (h : tk p (B.length - O.length) = (0, n, k)) (hn : O.length + n < B.length) : un B O p false = un B (O ++ (B.drop O.length).take n) (p.drop k) true := by
 obtain ⟨hm, hk, hk2, _⟩ := tk_ok h
 conv => lhs; rw [un]
 rw [h, if_neg (by simp), if_pos rfl, if_neg (by rw [len_take hm]; omega), dif_pos (by simp; omega)]
theorem un_short {B O p : List Nat} {n k : Nat} (h : tk p (B.length - O.length) = (0, n, k)) (hn : p.length - k < n) : un B O p true = (2, [], []) := by
 rw [un, h, if_neg (by simp), if_neg (by simp), if_pos (by simpa using hn)]
theorem un_diff {B O p : List Nat} {n k : Nat} (h : tk p (B.length - O.length) = (0, n, k)) (hn : n ≤ p.length - k) : un B O p true = un B (O ++ (p.drop k).take n) ((p.drop k).drop n) false := by
 obtain ⟨hm, hk, hk2, _⟩ := tk_ok h
 conv => lhs; rw [un]
 rw [h, if_neg (by simp), if_neg (by simp), if_neg (by simp; omega), dif_pos (by simp; omega)]
theorem un_size (n : Nat) : ∀ (B O p : List Nat) (t : Bool) (O' q : List Nat), p.length ≤ n → un B O p t = (0, O', q) → O.length ≤ B.length → O'.length = B.length := by
 induction n with
 | zero =>
  intro B O p t O' q hp h hO
  have e : p = [] := List.length_eq_zero_iff.1 (by omega)
  subst e
  rw [un_err (e := 2) (n := 0) (k := 0) rfl (by simp)] at h
  simp at h
 | succ n ih =>
  intro B O p t O' q hp h hO
  rcases hr : tk p (B.length - O.length) with ⟨e, m, k⟩
  by_cases he : e = 0
  ·subst he
   obtain ⟨hm, hk, hk2, _⟩ := tk_ok hr
   cases t with
   | false =>
    by_cases hn : O.length + m = B.length
    ·rw [un_last hr hn] at h
     injection h with _ h
     injection h with h _
     rw [← h, len_take hm]; exact hn
    ·rw [un_eq hr (by omega)] at h
     exact ih B _ _ _ O' q (by simp; omega) h (by rw [len_take hm]; omega)
   | true =>
    by_cases hn : m ≤ p.length - k
    ·rw [un_diff hr hn] at h
     exact ih B _ _ _ O' q (by simp; omega) h (by simp; omega)
    ·rw [un_short hr (by omega)] at h
     simp at h
  ·rw [un_err hr he] at h
   injection h with h _
   exact absurd h he
theorem un_pk (X : List Nat) (n : Nat) : ∀ (B O B' C : List Nat), C.length ≤ n → B.length < 16384 → B.drop O.length = B' → O.length + C.length = B.length → un B O (pk B' C ++ X) false = (0, O ++ C, X) := by
 induction n with
 | zero =>
  intro B O B' C hn hB hd hl
  have e0 : C = [] := List.length_eq_zero_iff.1 (by omega)
  subst e0
  simp only [List.length_nil] at hl
  have e : eqR B' [] = ([] : List Nat).length := eqR_nil _
  rw [pk_end e]
  have h := tk_num (m := ([] : List Nat).length) (most := B.length - O.length) (by simp) (by simp) X
  rw [un_last h (by simp; omega)]
  simp
 | succ n ih =>
  intro B O B' C hn hB hd hl
  have hl' : B'.length = C.length := by rw [← hd]; simp; omega
  have hle := eqR_le B' C
  have ht := eqR_take B' C
  rcases Nat.lt_or_ge (eqR B' C) C.length with hc | hc
  ·obtain ⟨e, he⟩ : ∃ e, eqR B' C = e := ⟨_, rfl⟩
   obtain ⟨d, hdd⟩ : ∃ d, dR (B'.drop e) (C.drop e) = d := ⟨_, rfl⟩
   have hz := @eqR_stop B' C
   rw [he] at ht hle hc hz
   have hp : 0 < d := by rw [← hdd]; exact dR_pos (by simp [hl']) hz (by simp; omega)
   have hdl : d ≤ C.length - e := by rw [← hdd]; have := dR_le (B'.drop e) (C.drop e); simpa using this
   rw [pk_more hl' he hc hdd, List.append_assoc]
   have h1 := tk_num (m := e) (most := B.length - O.length) (by omega) (by omega) (num d ++ ((C.drop e).take d ++ pk (B'.drop (e + d)) (C.drop (e + d))) ++ X)
   rw [un_eq h1 (by omega), List.drop_left, hd, ht, List.append_assoc]
   have hO : (O ++ C.take e).length = O.length + e := by simp; omega
   have h2 := tk_num (m := d) (most := B.length - (O ++ C.take e).length) (by omega) (by omega) ((C.drop e).take d ++ pk (B'.drop (e + d)) (C.drop (e + d)) ++ X)
   rw [un_diff h2 (by simp; omega), List.drop_left, List.append_assoc (List.take d (List.drop e C))]
   have hL : ((C.drop e).take d).length = d := by simp; omega
   have e1 : ((C.drop e).take d ++ (pk (B'.drop (e + d)) (C.drop (e + d)) ++ X)).take d = (C.drop e).take d := by
    rw [List.take_append_of_le_length (by omega), List.take_of_length_le (by omega)]
   have e2 : ((C.drop e).take d ++ (pk (B'.drop (e + d)) (C.drop (e + d)) ++ X)).drop d = pk (B'.drop (e + d)) (C.drop (e + d)) ++ X := List.drop_left' hL
   rw [e1, e2]
   have hO2 : (O ++ C.take e ++ (C.drop e).take d).length = O.length + e + d := by rw [List.length_append, hO, hL]
   rw [ih B (O ++ C.take e ++ (C.drop e).take d) (B'.drop (e + d)) (C.drop (e + d)) (by simp; omega) hB (by rw [hO2, ← hd, List.drop_drop, Nat.add_assoc]) (by rw [hO2]; simp; omega)]
   congr 2
   rw [List.append_assoc, ← List.drop_drop, List.append_assoc, List.take_append_drop, List.take_append_drop]
  ·have e : eqR B' C = C.length := by omega
   rw [pk_end e]
   rw [e] at ht
   have h := tk_num (m := C.length) (most := B.length - O.length) (by omega) (by omega) X
   rw [un_last h hl, hd, ht, List.take_of_length_le (Nat.le_refl _), List.drop_left]
/-- The document's answer to a pack: the error and the bytes. -/
def unp (B p : List Nat) : Nat × List Nat :=
 if (un B [] p false).1 ≠ 0 then ((un B [] p false).1, []) else if (un B [] p false).2.2 ≠ [] then (3, []) else if pk B (un B [] p false).2.1 = p then (0, (un B [] p false).2.1) else (5, [])
theorem unp_pk {B C : List Nat} (hB : B.length < 16384) (hl : C.length = B.length) : unp B (pk B C) = (0, C) := by
 have h := un_pk [] C.length B [] B C (Nat.le_refl _) hB (by simp) (by simpa using hl)
 rw [List.append_nil] at h
 unfold unp
 rw [h]
 simp
theorem unp_tail {B C X : List Nat} (hB : B.length < 16384) (hl : C.length = B.length) (hX : X ≠ []) : unp B (pk B C ++ X) = (3, []) := by
 have h := un_pk X C.length B [] B C (Nat.le_refl _) hB (by simp) (by simpa using hl)
 unfold unp
 rw [h]
 simp [hX]
theorem unp_ok {B p O : List Nat} (h : unp B p = (0, O)) : pk B O = p ∧ O.length = B.length := by
 unfold unp at h
 rcases hu : un B [] p false with ⟨e, O', q⟩
 rw [hu] at h
 dsimp only at h
 split at h
 ·rename_i h1; injection h with h2; exact absurd h2 h1
 split at h
 ·simp at h
 split at h
 ·rename_i h1 h2 h3
  simp at h1
  subst h1
  injection h with _ h
  subst h
  exact ⟨h3, un_size p.length B [] p false _ _ (Nat.le_refl _) hu (by simp)⟩
 ·simp at h
theorem unp_bad {B p : List Nat} {e : Nat} {O : List Nat} (h : unp B p = (e, O)) (he : e ≠ 0) : O = [] := by
 unfold unp at h
 split at h
 ·injection h with _ h; exact h.symm
 split at h
 ·injection h with _ h; exact h.symm
 split at h
 ·injection h with h; exact absurd h.symm he
 ·injection h with _ h; exact h.symm
theorem unp_cut {B C : List Nat} {k : Nat} (hB : B.length < 16384) (hl : C.length = B.length) (hk : k < (pk B C).length) : (unp B ((pk B C).take k)).1 ≠ 0 := by
 intro h0
 rcases hu : unp B ((pk B C).take k) with ⟨e, O⟩
 rw [hu] at h0
 dsimp only at h0
 subst h0
 obtain ⟨h1, h2⟩ := unp_ok hu
 have h3 : (pk B C).drop k ≠ [] := by
  intro h; have := congrArg List.length h; simp at this; omega
 have h4 := unp_tail hB h2 h3
 rw [h1, List.take_append_drop, unp_pk hB hl] at h4
 simp at h4
theorem pk_inj {B C D : List Nat} (hB : B.length < 16384) (hC : C.length = B.length) (hD : D.length = B.length) (h : pk B C = pk B D) : C = D := by
 have h1 := unp_pk hB hC
 rw [h, unp_pk hB hD] at h1
 injection h1 with _ h1
 exact h1.symm
end Go.Proofs.Ytklbhbappaibgaa
