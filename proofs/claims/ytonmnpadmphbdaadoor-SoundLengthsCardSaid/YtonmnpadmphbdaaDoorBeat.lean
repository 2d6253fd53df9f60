/-
  What 2048 cycles make of a board on which nothing slides: plain data.
-/
import Derived.Test.YtonmnpadmphbdaaDoorPr
import Derived.Deep.Cut
namespace Go.Proofs.YtonmnpadmphbdaaDoor
open Go.ChangeShapes Go.WideShapes Go.ChangeAt Go.RowKit
set_option linter.unusedVariables false
set_option linter.unusedSimpArgs false
set_option maxRecDepth 100000
/-- The hardware is on, at the beginning of a beat, and nothing slides. -/
structure Still (m : M) : Prop where
  on : m 48 = 1
  div : m 49 = 0
  sl : ¬ m 69 = 1
theorem it_low {m : M} (h : Still m) : ∀ j, j < 2048 → itN m j = if j = 0 then m else upd m 49 j
  | 0, _ => rfl
  | j + 1, hj => by
    show tickV (itN m j) = _
    rw [it_low h j (by omega)]
    by_cases e : j = 0
    · subst e
      rw [if_pos rfl, if_neg (by omega)]
      unfold tickV
      rw [if_pos h.on, h.div, if_neg (by omega)]
      rfl
    · rw [if_neg e, if_neg (by omega)]
      unfold tickV
      rw [if_pos ((upd_ne _ _ _ _ (by omega)).trans h.on), upd_same, if_neg (by omega), upd_upd]
      rfl
theorem it_beat {m : M} (h : Still m) : itN m 2048 = upd (perfV m) 50 ((perfV m 50 + 1) % 8) := by
  show tickV (itN m 2047) = _
  rw [it_low h 2047 (by omega), if_neg (by omega)]
  unfold tickV
  rw [if_pos ((upd_ne _ _ _ _ (by omega)).trans h.on), upd_same, if_pos (by decide)]
  have e : upd (upd m 49 ((2047 : Nat) : Int)) 49 0 = m := by
    rw [upd_upd]
    funext i
    unfold upd
    split
    · next e => subst e; exact h.div.symm
    · rfl
  unfold beatV
  rw [e]
theorem sh1_clear (m : M) (v : Nat) (h : m (v * 5 + 4) / 64 % 2 = 0) : sh1V m v = m := if_pos (Or.inl h)
theorem lev1_clear (m : M) (v : Nat) (x : Int) (h : x % 8 = 0) : lev1V m v x = m := if_pos h
theorem itN_mul (m : M) (a : Nat) : ∀ c, itN m (a * (c + 1)) = itN (itN m (a * c)) a := fun c => by
  rw [Nat.mul_succ, itN_add]
/-- No length is counted, and of the voices but k no level is turned. -/
structure Lone (m : M) (k : Nat) (x : Int) : Prop extends Still m where
  cl : ∀ v, v < 4 → m (v * 5 + 4) / 64 % 2 = 0
  own : m (k * 5 + 2) = x
  lv : ∀ v, v < 4 → v ≠ k → m (v * 5 + 2) % 8 = 0
theorem shN_clear {m : M} (h : ∀ v, v < 4 → m (v * 5 + 4) / 64 % 2 = 0) : ∀ t, t ≤ 4 → shN m t = m
  | 0, _ => rfl
  | t + 1, ht => by
    show sh1V (shN m t) t = m
    rw [shN_clear h t (by omega)]
    exact sh1_clear m t (h t (by omega))
theorem levN_lone {m : M} {k : Nat} {x : Int} (h : Lone m k x) (hk : k = 0 ∨ k = 1 ∨ k = 3) : levN m 4 = lev1V m k x := by
  have hr : ∀ y o, o < 48 → lev1V m k y o = m o := fun y o ho => by
    have hk4 : k < 4 := by omega
    unfold lev1V
    split
    · rfl
    · split
      · exact upd_ne _ _ _ _ (by omega)
      · split
        · split
          · rw [upd_ne _ _ _ _ (by omega), upd_ne _ _ _ _ (by omega)]
          · exact upd_ne _ _ _ _ (by omega)
        · split
          · rw [upd_ne _ _ _ _ (by omega), upd_ne _ _ _ _ (by omega)]
          · exact upd_ne _ _ _ _ (by omega)
  have st : ∀ t (a : M), levN m t = a → levN m (t + 1) = if t = 2 then a else lev1V a t (a (t * 5 + 2)) := fun t a e => by
    show (if t = 2 then levN m t else lev1V (levN m t) t (levN m t (t * 5 + 2))) = _
    rw [e]
  have ow := h.own
  rcases hk with rfl | rfl | rfl
  · have a1 := st 0 m rfl
    rw [if_neg (by omega), ow] at a1
    have a2 := st 1 _ a1
    rw [if_neg (by omega), hr _ _ (by omega), lev1_clear _ _ _ (h.lv 1 (by omega) (by omega))] at a2
    have a3 := st 2 _ a2
    rw [if_pos rfl] at a3
    have a4 := st 3 _ a3
    rw [if_neg (by omega), hr _ _ (by omega), lev1_clear _ _ _ (h.lv 3 (by omega) (by omega))] at a4
    exact a4
  · have a1 := st 0 m rfl
    rw [if_neg (by omega), lev1_clear _ _ _ (h.lv 0 (by omega) (by omega))] at a1
    have a2 := st 1 _ a1
    rw [if_neg (by omega), ow] at a2
    have a3 := st 2 _ a2
    rw [if_pos rfl] at a3
    have a4 := st 3 _ a3
    rw [if_neg (by omega), hr _ _ (by omega), lev1_clear _ _ _ (h.lv 3 (by omega) (by omega))] at a4
    exact a4
  · have a1 := st 0 m rfl
    rw [if_neg (by omega), lev1_clear _ _ _ (h.lv 0 (by omega) (by omega))] at a1
    have a2 := st 1 _ a1
    rw [if_neg (by omega), lev1_clear _ _ _ (h.lv 1 (by omega) (by omega))] at a2
    have a3 := st 2 _ a2
    rw [if_pos rfl] at a3
    have a4 := st 3 _ a3
    rw [if_neg (by omega), ow] at a4
    exact a4
/-- Only a level, a time, and the number of the step differ. -/
theorem Lone.upd {m : M} {k : Nat} {x : Int} (h : Lone m k x) (o : Nat) (y : Int) (h0 : 49 < o) (h1 : o ≠ 69) (hk : k < 4) : Lone (upd m o y) k x :=
  ⟨⟨(upd_ne _ _ _ _ (by omega)).trans h.on, (upd_ne _ _ _ _ (by omega)).trans h.div, by rw [upd_ne _ _ _ _ (by omega)]; exact h.sl⟩,
   fun v hv => by rw [upd_ne _ _ _ _ (by omega)]; exact h.cl v hv, (upd_ne _ _ _ _ (by omega)).trans h.own, fun v hv hn => by rw [upd_ne _ _ _ _ (by omega)]; exact h.lv v hv hn⟩
theorem lone_lev1 {m : M} {k : Nat} {x : Int} (h : Lone m k x) (hk : k < 4) : Lone (lev1V m k x) k x := by
  unfold lev1V
  split
  · exact h
  · split
    · exact h.upd _ _ (by omega) (by omega) hk
    · split
      · split
        · exact (h.upd _ _ (by omega) (by omega) hk).upd _ _ (by omega) (by omega) hk
        · exact h.upd _ _ (by omega) (by omega) hk
      · split
        · exact (h.upd _ _ (by omega) (by omega) hk).upd _ _ (by omega) (by omega) hk
        · exact h.upd _ _ (by omega) (by omega) hk
/-- A level and the time up to its next turn, behind one turn more. -/
def turnP (x : Int) (p : Int × Int) : Int × Int :=
  if x % 8 = 0 then p else if 1 < p.2 then (p.1, p.2 - 1) else if x / 8 % 2 = 1 then (if p.1 < 15 then (p.1 + 1, x % 8) else (p.1, x % 8)) else (if 0 < p.1 then (p.1 - 1, x % 8) else (p.1, x % 8))
theorem lev1_turn (m : M) (k : Nat) (x : Int) : (lev1V m k x (51 + k * 4 + 2), lev1V m k x (51 + k * 4 + 3)) = turnP x (m (51 + k * 4 + 2), m (51 + k * 4 + 3)) := by
  unfold lev1V turnP
  dsimp only
  split
  · rfl
  · split
    · rw [upd_same, upd_ne _ _ _ _ (by omega)]
    · split
      · split
        · rw [upd_same, upd_ne _ _ _ _ (by omega), upd_same]
        · rw [upd_same, upd_ne _ _ _ _ (by omega)]
      · split
        · rw [upd_same, upd_ne _ _ _ _ (by omega), upd_same]
        · rw [upd_same, upd_ne _ _ _ _ (by omega)]
theorem lev1_other (m : M) (k : Nat) (x : Int) (o : Nat) (h2 : o ≠ 51 + k * 4 + 2) (h3 : o ≠ 51 + k * 4 + 3) : lev1V m k x o = m o := by
  unfold lev1V
  split
  · rfl
  · split
    · exact upd_ne _ _ _ _ h3
    · split
      · split
        · rw [upd_ne _ _ _ _ h2, upd_ne _ _ _ _ h3]
        · exact upd_ne _ _ _ _ h3
      · split
        · rw [upd_ne _ _ _ _ h2, upd_ne _ _ _ _ h3]
        · exact upd_ne _ _ _ _ h3
/-- One beat. -/
theorem lone_beat {m : M} {k : Nat} {x : Int} (h : Lone m k x) (hk : k = 0 ∨ k = 1 ∨ k = 3) (s : Int) (h0 : 0 ≤ s) (h1 : s < 8) (hs : m 50 = s) :
    Lone (itN m 2048) k x ∧ itN m 2048 50 = (s + 1) % 8 ∧ (itN m 2048 (51 + k * 4 + 2), itN m 2048 (51 + k * 4 + 3)) = if s = 7 then turnP x (m (51 + k * 4 + 2), m (51 + k * 4 + 3)) else (m (51 + k * 4 + 2), m (51 + k * 4 + 3)) := by
  have hk4 : k < 4 := by omega
  have hp : perfV m = if s = 7 then lev1V m k x else m := by
    unfold perfV
    rw [shN_clear h.cl 4 (by omega), levN_lone h hk, hs]
    rw [if_neg (show ¬ m 69 = 1 from h.sl)]
    by_cases a : s = 0 ∨ s = 4
    · rw [if_pos a, if_neg (by omega)]
    · rw [if_neg a]
      by_cases b : s = 2 ∨ s = 6
      · rw [if_pos b, if_neg (by omega)]
      · rw [if_neg b]
  rw [it_beat h.toStill, hp]
  by_cases e : s = 7
  · rw [if_pos e, if_pos e]
    refine ⟨(lone_lev1 h hk4).upd 50 _ (by omega) (by omega) hk4, ?_, ?_⟩
    · rw [upd_same, lev1_other _ _ _ _ (by omega) (by omega), hs]
    · rw [upd_ne _ _ _ _ (by omega), upd_ne _ _ _ _ (by omega)]
      exact lev1_turn m k x
  · rw [if_neg e, if_neg e]
    refine ⟨h.upd 50 _ (by omega) (by omega) hk4, ?_, ?_⟩
    · rw [upd_same, hs]
    · rw [upd_ne _ _ _ _ (by omega), upd_ne _ _ _ _ (by omega)]
theorem lone_beats {m : M} {k : Nat} {x : Int} (h : Lone m k x) (hk : k = 0 ∨ k = 1 ∨ k = 3) (hs : m 50 = 0) : ∀ j : Nat, j ≤ 7 →
    Lone (itN m (2048 * j)) k x ∧ itN m (2048 * j) 50 = j ∧ (itN m (2048 * j) (51 + k * 4 + 2), itN m (2048 * j) (51 + k * 4 + 3)) = (m (51 + k * 4 + 2), m (51 + k * 4 + 3))
  | 0, _ => ⟨h, hs, rfl⟩
  | j + 1, hj => by
    obtain ⟨a, b, c⟩ := lone_beats h hk hs j (by omega)
    obtain ⟨d, e, f⟩ := lone_beat a hk j (by omega) (by omega) b
    rw [itN_mul]
    exact ⟨d, by rw [e]; omega, by rw [f, if_neg (by omega)]; exact c⟩
/-- Eight beats. -/
theorem lone_turn {m : M} {k : Nat} {x : Int} (h : Lone m k x) (hk : k = 0 ∨ k = 1 ∨ k = 3) (hs : m 50 = 0) :
    Lone (itN m 16384) k x ∧ itN m 16384 50 = 0 ∧ (itN m 16384 (51 + k * 4 + 2), itN m 16384 (51 + k * 4 + 3)) = turnP x (m (51 + k * 4 + 2), m (51 + k * 4 + 3)) := by
  obtain ⟨a, b, c⟩ := lone_beats h hk hs 7 (by omega)
  obtain ⟨d, e, f⟩ := lone_beat a hk 7 (by omega) (by omega) b
  rw [show (16384 : Nat) = 2048 * (7 + 1) from rfl, itN_mul]
  exact ⟨d, by rw [e]; rfl, by rw [f, if_pos rfl, c]⟩
def turnN (x : Int) (p : Int × Int) : Nat → Int × Int
  | 0 => p
  | n + 1 => turnP x (turnN x p n)
theorem lone_turns {m : M} {k : Nat} {x : Int} (h : Lone m k x) (hk : k = 0 ∨ k = 1 ∨ k = 3) (hs : m 50 = 0) : ∀ n : Nat,
    Lone (itN m (16384 * n)) k x ∧ itN m (16384 * n) 50 = 0 ∧ (itN m (16384 * n) (51 + k * 4 + 2), itN m (16384 * n) (51 + k * 4 + 3)) = turnN x (m (51 + k * 4 + 2), m (51 + k * 4 + 3)) n
  | 0 => ⟨h, hs, rfl⟩
  | n + 1 => by
    obtain ⟨a, b, c⟩ := lone_turns h hk hs n
    obtain ⟨d, e, f⟩ := lone_turn a hk b
    rw [itN_mul]
    exact ⟨d, e, by rw [f, c]; rfl⟩
def wantL (x : Int) (n : Nat) : Int :=
  if 0 < x % 8 then (if x / 8 % 2 = 1 then min 15 (x / 16 + (n : Int) / (x % 8)) else max 0 (x / 16 - (n : Int) / (x % 8))) else x / 16
theorem turns_want (x : Int) (n : Nat) (h0 : 0 ≤ x) (h1 : x < 256) (hn : n < 20) : (turnN x (x / 16, x % 8) n).1 = wantL x n := by
  have key : ∀ (a : Fin 256) (b : Fin 20), (turnN (a.val : Int) ((a.val : Int) / 16, (a.val : Int) % 8) b.val).1 = wantL (a.val : Int) b.val := by decide +kernel
  have := key ⟨x.toNat, by omega⟩ ⟨n, hn⟩
  simpa [Int.toNat_of_nonneg h0] using this
end Go.Proofs.YtonmnpadmphbdaaDoor
