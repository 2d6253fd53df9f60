/-
  A board on which one voice is begun: plain data.
-/
import Derived.Test.YtonmnpadmphbdaaDoorBeat
import Derived.Deep.Cut
namespace Go.Proofs.YtonmnpadmphbdaaDoor
open Go.ChangeShapes Go.WideShapes Go.ChangeAt Go.RowKit
set_option linter.unusedVariables false
set_option linter.unusedSimpArgs false
set_option maxRecDepth 100000
theorem on_zero (o : Nat) : onV zeroM o = if o = 48 then 1 else 0 := by
  unfold onV
  rw [if_neg (by decide)]
  by_cases e : o = 48
  · subst e; rw [upd_same, if_pos rfl]
  · rw [upd_ne _ _ _ _ e, if_neg e]
    by_cases e1 : o = 50
    · subst e1; exact upd_same _ _ _
    · rw [upd_ne _ _ _ _ e1]
      by_cases e2 : o = 49
      · subst e2; exact upd_same _ _ _
      · rw [upd_ne _ _ _ _ e2]; rfl
theorem wr_put (m : M) (n : Nat) (x : Int) (h48 : m 48 = 1) (h : n < 20) : writeV m n x = putV m n x := by
  unfold writeV
  rw [if_neg (by omega), if_neg (by intro k; rcases k with k | k | k; omega; omega; exact k.1 h48)]
  rfl
theorem put_at (m : M) (k j : Nat) (x : Int) (hk : k < 4) (hj : j < 5) : putV m (k * 5 + j) x = followV (upd m (k * 5 + j) x) k j := by
  unfold putV
  rw [show (k * 5 + j) / 5 = k by omega, show (k * 5 + j) % 5 = j by omega, if_pos hk]
theorem wr_trig (m : M) (k : Nat) (x : Int) (h48 : m 48 = 1) (hk : k < 4) (hx : 128 ≤ x) : writeV m ((k * 5 + 4 : Nat) : Int) x = trigV (upd m (k * 5 + 4) x) k := by
  rw [wr_put m _ x h48 (by omega), put_at m k 4 x hk (by omega)]
  unfold followV
  rw [if_neg (by omega), if_neg (by omega), if_neg (by omega), if_pos rfl, if_pos (by rw [upd_same]; exact hx)]
theorem wr_env (m : M) (k : Nat) (x : Int) (h48 : m 48 = 1) (hk : k < 4) (h0 : m (51 + k * 4) = 0) : writeV m ((k * 5 + 2 : Nat) : Int) x = upd m (k * 5 + 2) x := by
  rw [wr_put m _ x h48 (by omega), put_at m k 2 x hk (by omega)]
  show stopU (upd m (k * 5 + 2) x) k = _
  unfold stopU
  split
  · rfl
  · funext o
    by_cases e : o = 51 + k * 4
    · subst e; rw [upd_same, upd_ne _ _ _ _ (by omega), h0]
    · exact upd_ne _ _ _ _ e
theorem stop_at (m : M) (o : Nat) (h0 : o ≠ 51) : stopV m o = m o := by unfold stopV; split; rfl; exact upd_ne _ _ _ _ h0
theorem begin_at (m : M) (o : Nat) (h0 : o ≠ 51) (h1 : o ≠ 67) (h2 : o ≠ 68) (h3 : o ≠ 69) : beginV m o = m o := by
  have k : (upd (upd (upd m 67 (m 4 % 8 * 256 + m 3)) 68 (timeV m)) 69 (if perV m = 0 ∧ shV m = 0 then 0 else 1)) o = m o := by
    rw [upd_ne _ _ _ _ h3, upd_ne _ _ _ _ h2, upd_ne _ _ _ _ h1]
  unfold beginV
  (try dsimp only)
  split
  · exact k
  · exact (stop_at _ o h0).trans k
theorem begin_69 (m : M) (h : m 0 = 0) : beginV m 69 = 0 ∧ beginV m 51 = m 51 := by
  have hp : perV m = 0 := by unfold perV; rw [h]; rfl
  have hs : shV m = 0 := by unfold shV; rw [h]; rfl
  unfold beginV
  (try dsimp only)
  rw [if_pos hs]
  exact ⟨by rw [upd_same, if_pos ⟨hp, hs⟩], by rw [upd_ne _ _ _ _ (by omega), upd_ne _ _ _ _ (by omega), upd_ne _ _ _ _ (by omega)]⟩
theorem trig4_at (m : M) (k o : Nat) (h : ∀ j, j < 4 → o ≠ 51 + k * 4 + j) : trig4 m k o = m o := by
  have h0 : o ≠ 51 + k * 4 := h 0 (by omega)
  have h1 := h 1 (by omega)
  have h2 := h 2 (by omega)
  have h3 := h 3 (by omega)
  unfold trig4
  rw [upd_ne _ _ _ _ h3, upd_ne _ _ _ _ h2]
  split
  · rw [upd_ne _ _ _ _ h1, upd_ne _ _ _ _ h0]
  · rw [upd_ne _ _ _ _ h0]
theorem trig4_own (m : M) (k : Nat) : trig4 m k (51 + k * 4) = tf (readyV m k) ∧ trig4 m k (51 + k * 4 + 1) = (if m (51 + k * 4 + 1) = 0 then maxV k else m (51 + k * 4 + 1)) ∧ trig4 m k (51 + k * 4 + 2) = m (k * 5 + 2) / 16 ∧ trig4 m k (51 + k * 4 + 3) = m (k * 5 + 2) % 8 := by
  unfold trig4
  refine ⟨?_, ?_, ?_, upd_same _ _ _⟩
  · rw [upd_ne _ _ _ _ (by omega), upd_ne _ _ _ _ (by omega)]
    split
    · rw [upd_ne _ _ _ _ (by omega), upd_same]
    · rw [upd_same]
  · rw [upd_ne _ _ _ _ (by omega), upd_ne _ _ _ _ (by omega)]
    split
    · rw [upd_same]
    · rw [upd_ne _ _ _ _ (by omega)]
  · rw [upd_ne _ _ _ _ (by omega), upd_same]
/-- Behind a voice's beginning: its cells, and the others as they were; nothing slides, if the first register is 0. -/
theorem trig_own (m : M) (k : Nat) (hk : k < 4) (h0 : m 0 = 0) (h69 : m 69 = 0) : trigV m k (51 + k * 4) = tf (readyV m k) ∧ trigV m k (51 + k * 4 + 1) = (if m (51 + k * 4 + 1) = 0 then maxV k else m (51 + k * 4 + 1)) ∧ trigV m k (51 + k * 4 + 2) = m (k * 5 + 2) / 16 ∧ trigV m k (51 + k * 4 + 3) = m (k * 5 + 2) % 8
    ∧ trigV m k 69 = 0 ∧ ∀ o, o < 51 → trigV m k o = m o := by
  obtain ⟨a, b, c, d⟩ := trig4_own m k
  have hr := fun o (ho : o < 51) => trig4_at m k o (by omega)
  rw [trig_eq]
  by_cases e : k = 0
  · subst e
    rw [if_pos rfl]
    have hb := begin_69 (trig4 m 0) ((hr 0 (by omega)).trans h0)
    refine ⟨hb.2.trans a, (begin_at _ _ (by omega) (by omega) (by omega) (by omega)).trans b, (begin_at _ _ (by omega) (by omega) (by omega) (by omega)).trans c, (begin_at _ _ (by omega) (by omega) (by omega) (by omega)).trans d, hb.1, fun o ho => (begin_at _ _ (by omega) (by omega) (by omega) (by omega)).trans (hr o ho)⟩
  · rw [if_neg e]
    exact ⟨a, b, c, d, (trig4_at m k 69 (by omega)).trans h69, hr⟩
theorem lone_init (k : Nat) (hk : k = 0 ∨ k = 1 ∨ k = 3) (x : Int) :
    Lone (trigV (upd (upd (onV zeroM) (k * 5 + 2) x) (k * 5 + 4) 128) k) k x ∧ trigV (upd (upd (onV zeroM) (k * 5 + 2) x) (k * 5 + 4) 128) k 50 = 0 ∧ trigV (upd (upd (onV zeroM) (k * 5 + 2) x) (k * 5 + 4) 128) k (51 + k * 4 + 2) = x / 16 ∧ trigV (upd (upd (onV zeroM) (k * 5 + 2) x) (k * 5 + 4) 128) k (51 + k * 4 + 3) = x % 8 := by
  have v : ∀ o, o ≠ k * 5 + 2 → o ≠ k * 5 + 4 → o ≠ 48 → upd (upd (onV zeroM) (k * 5 + 2) x) (k * 5 + 4) 128 o = 0 := fun o h1 h2 h3 => by
    rw [upd_ne _ _ _ _ h2, upd_ne _ _ _ _ h1, on_zero, if_neg h3]
  have vx : upd (upd (onV zeroM) (k * 5 + 2) x) (k * 5 + 4) 128 (k * 5 + 2) = x := by rw [upd_ne _ _ _ _ (by omega), upd_same]
  have v48 : upd (upd (onV zeroM) (k * 5 + 2) x) (k * 5 + 4) 128 48 = 1 := by rw [upd_ne _ _ _ _ (by omega), upd_ne _ _ _ _ (by omega), on_zero, if_pos rfl]
  have v4 : upd (upd (onV zeroM) (k * 5 + 2) x) (k * 5 + 4) 128 (k * 5 + 4) = 128 := upd_same _ _ _
  generalize upd (upd (onV zeroM) (k * 5 + 2) x) (k * 5 + 4) 128 = m at *
  obtain ⟨_, _, c, d, e, f⟩ := trig_own m k (by omega) (v 0 (by omega) (by omega) (by omega)) (v 69 (by omega) (by omega) (by omega))
  refine ⟨⟨⟨(f 48 (by omega)).trans v48, (f 49 (by omega)).trans (v 49 (by omega) (by omega) (by omega)), by rw [e]; decide⟩, fun u hu => ?_, (f _ (by omega)).trans vx, fun u hu hn => ?_⟩, (f 50 (by omega)).trans (v 50 (by omega) (by omega) (by omega)), by rw [c, vx], by rw [d, vx]⟩
  · rw [f _ (by omega)]
    by_cases q : u = k
    · subst q; rw [v4]; rfl
    · rw [v _ (by omega) (by omega) (by omega)]; rfl
  · rw [f _ (by omega), v _ (by omega) (by omega) (by omega)]; rfl
theorem want_level (k : Nat) (hk : k = 0 ∨ k = 1 ∨ k = 3) (x : Int) (h0 : 0 ≤ x) (h1 : x < 256) (n : Nat) (hn : n < 20) :
    itN (writeV (writeV (writeV zeroM 22 128) ((k * 5 + 2 : Nat) : Int) x) ((k * 5 + 4 : Nat) : Int) 128) (16384 * n) (51 + k * 4 + 2) = wantL x n := by
  have e1 : writeV zeroM 22 128 = onV zeroM := rfl
  have p48 : onV zeroM 48 = 1 := on_48 _
  rw [e1, wr_env _ k x p48 (by omega) (by rw [on_zero, if_neg (by omega)]), wr_trig _ k 128 (by rw [upd_ne _ _ _ _ (by omega)]; exact p48) (by omega) (by decide)]
  obtain ⟨a, b, c, d⟩ := lone_init k hk x
  obtain ⟨_, _, q⟩ := lone_turns a hk b n
  rw [c, d] at q
  rw [← turns_want x n h0 h1 hn, ← q]
end Go.Proofs.YtonmnpadmphbdaaDoor
