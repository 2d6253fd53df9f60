/-
  Plain data: what a cycle, a write and a mode do with a unit's numbers; no program, no condition.
-/
import Derived.Test.YtpfbodmadmneiaaUn
namespace Go.Proofs.Ytpfbodmadmneiaa
open Go.ChangeShapes Go.WideShapes Go.ChangeAt Go.RowKit
set_option linter.unusedVariables false
set_option linter.unusedSimpArgs false
def onV (c : Int) : Bool := decide (128 ≤ c)
def modeV (c L d : Int) : Int := if 128 ≤ c then (if 144 ≤ L then 1 else if d < 20 then 2 else if d < 63 then 3 else 0) else 0
def sigV (c st L ly d : Int) : Bool := decide (128 ≤ c) && ((decide (bit st 6 = 1) && decide (L = ly)) || (decide (bit st 3 = 1) && decide (modeV c L d = 0)) || (decide (bit st 4 = 1) && decide (modeV c L d = 1)) || (decide (bit st 5 = 1) && decide (modeV c L d = 2)))
def sigM (m : M) : Bool := sigV (m 8352) (m 8353) (m 8356) (m 8357) (m 8363)
def sgM (m : M) : M := upd m 8366 (tf (sigM m))
def askM (m : M) : Int := if sigM m = true ∧ m 8366 = 0 then 2 else 0
def vid (m : M) : M := fun k => if k < 8192 then m k else 0
def oam (m : M) : M := fun k => if k < 160 then m (8192 + k) else 0
def rowM (m : M) : M := firstN (outV (m 8352) (m 8358) (m 8359) (m 8360) (vid m) (oam m) (m 8356) (lineE (vid m) (m 8352) (m 8355) (m 8354) (m 8362) (m 8361) (m 8356) (m 8364))) 160
def seenM (m : M) : Bool := seenV (m 8352) (m 8362) (m 8361) (m 8356)
def drawM (m : M) : M := row m (8367 + 160 * (m 8356).toNat) 160 (rowM m)
def renM (m : M) : M := if seenM m = true then upd (drawM m) 8364 (m 8364 + 1) else drawM m
def lnM (m : M) : M := upd (upd m 8363 0) 8356 (m 8356 + 1)
def nextM (m : M) : M := if m 8356 + 1 = 144 then upd (lnM m) 8365 ((m 8365 + 1) % 65536) else if m 8356 + 1 = 154 then upd (upd (lnM m) 8356 0) 8364 0 else lnM m
def nextR (m : M) : Int := if m 8356 + 1 = 144 then 1 else 0
def dotM (m : M) : M := upd m 8363 (m 8363 + 1)
def midM (m : M) : M := if m 8363 + 1 = 63 ∧ m 8356 < 144 then renM (dotM m) else dotM m
def turnM (m : M) : M := if m 8363 + 1 = 114 then nextM (midM m) else midM m
def turnR (m : M) : Int := if m 8363 + 1 = 114 then nextR (midM m) else 0
def tickM (m : M) : M := if 128 ≤ m 8352 then sgM (turnM m) else m
def tickR (m : M) : Int := if 128 ≤ m 8352 then turnR m + askM (turnM m) else 0
/-- A unit as it can be. -/
structure Ok (m : M) : Prop where
  byte : ∀ o, o < 31407 → o ≠ 8365 → 0 ≤ m o ∧ m o < 256
  fr : 0 ≤ m 8365 ∧ m 8365 < 65536
  act : m 8366 = 0 ∨ m 8366 = 1
  line : m 8356 < 154
  dot : m 8363 < 114
  own : m 8364 ≤ m 8356 + (if 63 ≤ m 8363 then 1 else 0)
  stat : m 8353 % 8 = 0 ∧ m 8353 < 128
  shade : ∀ o, 8367 ≤ o → o < 31407 → m o < 4
theorem zero_at (o : Nat) : zeroM o = 0 := rfl
theorem ok_zero : Ok zeroM := ⟨fun _ _ _ => by rw [zero_at]; omega, by decide, by decide, by decide, by decide, by decide, by decide, fun _ _ _ => by rw [zero_at]; omega⟩
theorem upd_same (m : M) (o : Nat) (x : Int) : upd m o x o = x := by simp [upd]
theorem upd_ne (m : M) (o : Nat) (x : Int) (k : Nat) (h : k ≠ o) : upd m o x k = m k := by simp [upd, h]
theorem modeV_bd (c L d : Int) : 0 ≤ modeV c L d ∧ modeV c L d ≤ 3 := by
  unfold modeV
  repeat' split
  all_goals decide
/-- What lies below and above is the same: outside the places 8356, 8363 to 8366 and the picture. -/
def Lies (m m' : M) : Prop := ∀ o, o < 8363 → o ≠ 8356 → m' o = m o
theorem Lies.refl (m : M) : Lies m m := fun _ _ _ => rfl
theorem Lies.trans {a b c : M} (h : Lies a b) (k : Lies b c) : Lies a c := fun o h1 h2 => (k o h1 h2).trans (h o h1 h2)
theorem lies_upd (m : M) (o : Nat) (x : Int) (h : o = 8356 ∨ 8363 ≤ o) : Lies m (upd m o x) := fun k h1 h2 => upd_ne _ _ _ _ (by omega)
theorem lies_row (m : M) (k n : Nat) (r : M) (h : 8363 ≤ k) : Lies m (row m k n r) := fun o h1 h2 => row_out _ _ _ _ _ (by omega)
theorem lies_sg (m : M) : Lies m (sgM m) := lies_upd _ _ _ (by omega)
theorem lies_draw (m : M) : Lies m (drawM m) := lies_row _ _ _ _ (by omega)
theorem lies_ren (m : M) : Lies m (renM m) := by
  unfold renM
  split
  · exact (lies_draw m).trans (lies_upd _ _ _ (by omega))
  · exact lies_draw m
theorem lies_ln (m : M) : Lies m (lnM m) := (lies_upd _ _ _ (by omega)).trans (lies_upd _ _ _ (by omega))
theorem lies_next (m : M) : Lies m (nextM m) := by
  unfold nextM
  repeat' split
  · exact (lies_ln m).trans (lies_upd _ _ _ (by omega))
  · exact ((lies_ln m).trans (lies_upd _ _ _ (by omega))).trans (lies_upd _ _ _ (by omega))
  · exact lies_ln m
theorem lies_mid (m : M) : Lies m (midM m) := by
  unfold midM
  split
  · exact (lies_upd _ _ _ (by omega)).trans (lies_ren _)
  · exact lies_upd _ _ _ (by omega)
theorem lies_turn (m : M) : Lies m (turnM m) := by
  unfold turnM
  split
  · exact (lies_mid m).trans (lies_next _)
  · exact lies_mid m
theorem lies_tick (m : M) : Lies m (tickM m) := by
  unfold tickM
  split
  · exact (lies_turn m).trans (lies_sg _)
  · exact Lies.refl m
theorem draw_at (m : M) (o : Nat) (h : o < 8367) : drawM m o = m o := row_out _ _ _ _ _ (by omega)
theorem ren_at (m : M) (o : Nat) (h : o < 8367) (h2 : o ≠ 8364) : renM m o = m o := by
  unfold renM
  split
  · rw [upd_ne _ _ _ _ h2]; exact draw_at m o h
  · exact draw_at m o h
theorem ren_own (m : M) : renM m 8364 = m 8364 ∨ renM m 8364 = m 8364 + 1 := by
  unfold renM
  split
  · right; rw [upd_same]
  · left; exact draw_at m 8364 (by omega)
theorem mid_line (m : M) : midM m 8356 = m 8356 := by
  unfold midM
  split
  · rw [ren_at _ _ (by omega) (by omega)]; exact upd_ne _ _ _ _ (by omega)
  · exact upd_ne _ _ _ _ (by omega)
theorem mid_dot (m : M) : midM m 8363 = m 8363 + 1 := by
  unfold midM
  split
  · rw [ren_at _ _ (by omega) (by omega)]; exact upd_same _ _ _
  · exact upd_same _ _ _
theorem mid_at (m : M) (o : Nat) (h : o < 8367) (h2 : o ≠ 8364) (h3 : o ≠ 8363) : midM m o = m o := by
  unfold midM
  split
  · rw [ren_at _ _ h h2]; exact upd_ne _ _ _ _ h3
  · exact upd_ne _ _ _ _ h3
theorem mid_own (m : M) : midM m 8364 = m 8364 ∨ (m 8363 + 1 = 63 ∧ m 8356 < 144 ∧ midM m 8364 = m 8364 + 1) := by
  unfold midM
  split
  · rename_i h
    rcases ren_own (dotM m) with e | e
    · left; rw [e]; exact upd_ne _ _ _ _ (by omega)
    · right; refine ⟨h.1, h.2, ?_⟩; rw [e]; congr 1
  · left; exact upd_ne _ _ _ _ (by omega)
theorem out_bd (c bk fi se : Int) (V O : M) (line : Int) (U : M) (x : Nat) : 0 ≤ outV c bk fi se V O line U x ∧ outV c bk fi se V O line U x < 4 := by
  unfold outV shadeAt
  repeat' split
  all_goals exact shadeV_bd _ _
theorem rowM_bd (m : M) (x : Nat) : 0 ≤ rowM m x ∧ rowM m x < 4 := by
  unfold rowM firstN
  split
  · exact out_bd _ _ _ _ _ _ _ _ _
  · decide
theorem ok_upd {m : M} (h : Ok m) (o : Nat) (x : Int) (h1 : 0 ≤ x ∧ x < 256) (ho : o ≠ 8365 ∧ o ≠ 8366 ∧ o ≠ 8356 ∧ o ≠ 8363 ∧ o ≠ 8364 ∧ o < 8367) (hs : o = 8353 → x % 8 = 0 ∧ x < 128) : Ok (upd m o x) := by
  obtain ⟨a, b, c, d, e, f, g, i⟩ := h
  have n : ∀ k, k ≠ o → upd m o x k = m k := fun k hk => upd_ne _ _ _ _ hk
  refine ⟨fun k hk h3 => ?_, by rw [n _ (by omega)]; exact b, by rw [n _ (by omega)]; exact c, by rw [n _ (by omega)]; exact d, by rw [n _ (by omega)]; exact e, by rw [n _ (by omega), n 8356 (by omega), n 8363 (by omega)]; exact f, ?_, fun k h1 h2 => by rw [n _ (by omega)]; exact i k h1 h2⟩
  · by_cases q : k = o
    · subst q; rw [upd_same]; exact h1
    · rw [n k q]; exact a k hk h3
  · by_cases q : o = 8353
    · subst q; rw [upd_same]; exact hs rfl
    · rw [n _ (by omega)]; exact g
theorem ok_sg {m : M} (h : Ok m) : Ok (sgM m) := by
  obtain ⟨a, b, c, d, e, f, g, i⟩ := h
  have ht : tf (sigM m) = 0 ∨ tf (sigM m) = 1 := by cases sigM m <;> simp [tf]
  have n : ∀ k, k ≠ 8366 → sgM m k = m k := fun k hk => upd_ne _ _ _ _ hk
  refine ⟨fun k hk h3 => ?_, by rw [n _ (by omega)]; exact b, ?_, by rw [n _ (by omega)]; exact d, by rw [n _ (by omega)]; exact e, by rw [n _ (by omega), n 8356 (by omega), n 8363 (by omega)]; exact f, by rw [n _ (by omega)]; exact g, fun k h1 h2 => by rw [n _ (by omega)]; exact i k h1 h2⟩
  · by_cases q : k = 8366
    · subst q
      have : sgM m 8366 = tf (sigM m) := upd_same _ _ _
      omega
    · rw [n k q]; exact a k hk h3
  · have : sgM m 8366 = tf (sigM m) := upd_same _ _ _
    rw [this]; exact ht
theorem mid_pic {m : M} (h : Ok m) (o : Nat) (h1 : 8367 ≤ o) (h2 : o < 31407) : 0 ≤ midM m o ∧ midM m o < 4 := by
  have h0 := h.byte o h2 (by omega)
  have h4 := h.shade o h1 h2
  have hd : dotM m o = m o := upd_ne _ _ _ _ (by omega)
  have hdr : 0 ≤ drawM (dotM m) o ∧ drawM (dotM m) o < 4 := by
    unfold drawM row
    split
    · exact rowM_bd _ _
    · rw [hd]; omega
  unfold midM
  split
  · unfold renM
    split
    · rw [upd_ne _ _ _ _ (by omega)]; exact hdr
    · exact hdr
  · rw [hd]; omega
theorem next_at (m : M) (o : Nat) (h1 : o ≠ 8363) (h2 : o ≠ 8356) (h3 : o ≠ 8364) (h4 : o ≠ 8365) : nextM m o = m o := by
  have e : lnM m o = m o := by unfold lnM; rw [upd_ne _ _ _ _ h2, upd_ne _ _ _ _ h1]
  unfold nextM
  repeat' split
  · rw [upd_ne _ _ _ _ h4]; exact e
  · rw [upd_ne _ _ _ _ h3, upd_ne _ _ _ _ h2]; exact e
  · exact e
theorem ln_line (m : M) : lnM m 8356 = m 8356 + 1 := upd_same _ _ _
theorem ln_dot (m : M) : lnM m 8363 = 0 := by unfold lnM; rw [upd_ne _ _ _ _ (by omega)]; exact upd_same _ _ _
theorem ln_own (m : M) : lnM m 8364 = m 8364 := by unfold lnM; rw [upd_ne _ _ _ _ (by omega), upd_ne _ _ _ _ (by omega)]
theorem ln_fr (m : M) : lnM m 8365 = m 8365 := by unfold lnM; rw [upd_ne _ _ _ _ (by omega), upd_ne _ _ _ _ (by omega)]
theorem next_dot (m : M) : nextM m 8363 = 0 := by
  unfold nextM
  repeat' split
  · rw [upd_ne _ _ _ _ (by omega)]; exact ln_dot m
  · rw [upd_ne _ _ _ _ (by omega), upd_ne _ _ _ _ (by omega)]; exact ln_dot m
  · exact ln_dot m
theorem next_line (m : M) : nextM m 8356 = if m 8356 + 1 = 154 then 0 else m 8356 + 1 := by
  unfold nextM
  by_cases a : m 8356 + 1 = 144
  · rw [if_pos a, if_neg (by omega), upd_ne _ _ _ _ (by omega)]; exact ln_line m
  · rw [if_neg a]
    by_cases b : m 8356 + 1 = 154
    · rw [if_pos b, if_pos b, upd_ne _ _ _ _ (by omega), upd_same]
    · rw [if_neg b, if_neg b]; exact ln_line m
theorem next_own (m : M) : nextM m 8364 = if m 8356 + 1 = 154 then 0 else m 8364 := by
  unfold nextM
  by_cases a : m 8356 + 1 = 144
  · rw [if_pos a, if_neg (by omega), upd_ne _ _ _ _ (by omega)]; exact ln_own m
  · rw [if_neg a]
    by_cases b : m 8356 + 1 = 154
    · rw [if_pos b, if_pos b, upd_same]
    · rw [if_neg b, if_neg b]; exact ln_own m
theorem next_fr (m : M) : nextM m 8365 = if m 8356 + 1 = 144 then (m 8365 + 1) % 65536 else m 8365 := by
  unfold nextM
  by_cases a : m 8356 + 1 = 144
  · rw [if_pos a, if_pos a, upd_same]
  · rw [if_neg a, if_neg a]
    by_cases b : m 8356 + 1 = 154
    · rw [if_pos b, upd_ne _ _ _ _ (by omega), upd_ne _ _ _ _ (by omega)]; exact ln_fr m
    · rw [if_neg b]; exact ln_fr m
theorem ok_turn {m : M} (h : Ok m) : Ok (turnM m) := by
  have hd := h.dot
  have hl := h.line
  have ho := h.own
  have hb := h.byte
  have hd0 := (hb 8363 (by omega) (by omega)).1
  have hl0 := (hb 8356 (by omega) (by omega)).1
  have hw0 := (hb 8364 (by omega) (by omega)).1
  have mo : 0 ≤ midM m 8364 ∧ midM m 8364 ≤ m 8356 + (if 63 ≤ m 8363 + 1 then 1 else 0) := by
    rcases mid_own m with e | ⟨e1, e2, e3⟩
    · rw [e]
      refine ⟨hw0, ?_⟩
      split at ho
      · rw [if_pos (by omega)]; omega
      · split <;> omega
    · rw [e3, if_pos (by omega)]
      rw [if_neg (by omega)] at ho
      omega
  have fr : midM m 8365 = m 8365 := mid_at m _ (by omega) (by omega) (by omega)
  have ac : midM m 8366 = m 8366 := mid_at m _ (by omega) (by omega) (by omega)
  have st : midM m 8353 = m 8353 := mid_at m _ (by omega) (by omega) (by omega)
  have mb : ∀ o, o < 31407 → o ≠ 8365 → o ≠ 8363 → o ≠ 8364 → 0 ≤ midM m o ∧ midM m o < 256 := fun o h1 h2 h3 h4 => by
    by_cases hp : o < 8367
    · rw [mid_at m o hp h4 h3]; exact hb o h1 h2
    · have := mid_pic h o (by omega) h1; omega
  unfold turnM
  by_cases hn : m 8363 + 1 = 114
  · rw [if_pos hn]
    rw [if_pos (by omega)] at mo
    refine ⟨fun o h1 h2 => ?_, ?_, ?_, ?_, ?_, ?_, ?_, fun o h1 h2 => ?_⟩
    · by_cases a : o = 8363
      · subst a; rw [next_dot]; omega
      by_cases b : o = 8356
      · subst b; rw [next_line, mid_line]; split <;> omega
      by_cases c : o = 8364
      · subst c; rw [next_own]; split <;> omega
      · rw [next_at _ _ a b c h2]; exact mb o h1 h2 a c
    · rw [next_fr, fr]; have := h.fr; split <;> omega
    · rw [next_at _ _ (by omega) (by omega) (by omega) (by omega), ac]; exact h.act
    · rw [next_line, mid_line]; split <;> omega
    · rw [next_dot]; omega
    · rw [next_own, next_line, next_dot, if_neg (show ¬ (63 : Int) ≤ 0 by omega), mid_line]; split <;> omega
    · rw [next_at _ _ (by omega) (by omega) (by omega) (by omega), st]; exact h.stat
    · rw [next_at _ _ (by omega) (by omega) (by omega) (by omega)]; exact (mid_pic h o h1 h2).2
  · rw [if_neg hn]
    refine ⟨fun o h1 h2 => ?_, by rw [fr]; exact h.fr, by rw [ac]; exact h.act, by rw [mid_line]; exact hl, by rw [mid_dot]; omega, by rw [mid_line, mid_dot]; exact mo.2, by rw [st]; exact h.stat, fun o h1 h2 => (mid_pic h o h1 h2).2⟩
    by_cases a : o = 8363
    · subst a; rw [mid_dot]; omega
    by_cases c : o = 8364
    · subst c
      have := mo.2
      split at this <;> omega
    · exact mb o h1 h2 a c
theorem ok_tick {m : M} (h : Ok m) : Ok (tickM m) := by
  unfold tickM
  split
  · exact ok_sg (ok_turn h)
  · exact h
end Go.Proofs.Ytpfbodmadmneiaa
