/-
  Each number of a board stays in its range, whatever is done: plain data.
-/
import Derived.Test.YtonmnpadmphbdaaDoorEnc
import Derived.Deep.Cut
namespace Go.Proofs.YtonmnpadmphbdaaDoor
open Go.ChangeShapes Go.WideShapes Go.ChangeAt Go.RowKit
set_option linter.unusedVariables false
set_option linter.unusedSimpArgs false
set_option maxRecDepth 100000
def hi (o : Nat) : Int := if o < 48 then 255 else if o = 49 then 2047 else if o = 50 then 7 else if o = 67 then 2047 else if o = 68 then 8 else if o = 60 then 256 else if isB o = true then 1 else if (o - 51) % 4 = 1 then 64 else if (o - 51) % 4 = 2 then 15 else 7
theorem four {v : Nat} (h : v < 4) : v = 0 ∨ v = 1 ∨ v = 2 ∨ v = 3 := by omega
theorem hi_on (v : Nat) (h : v < 4) : hi (51 + v * 4) = 1 := by rcases four h with rfl | rfl | rfl | rfl <;> rfl
theorem hi_len (v : Nat) (h : v < 4) : hi (51 + v * 4 + 1) = maxV v := by rcases four h with rfl | rfl | rfl | rfl <;> rfl
theorem hi_lev (v : Nat) (h : v < 4) : hi (51 + v * 4 + 2) = 15 := by rcases four h with rfl | rfl | rfl | rfl <;> rfl
theorem hi_wt (v : Nat) (h : v < 4) : hi (51 + v * 4 + 3) = 7 := by rcases four h with rfl | rfl | rfl | rfl <;> rfl
theorem hi_reg (o : Nat) (h : o < 48) : hi o = 255 := if_pos h
theorem max_bd (v : Nat) : 64 ≤ maxV v ∧ maxV v ≤ 256 := by unfold maxV; split <;> omega
def okM (m : M) : Prop := ∀ o, o < 70 → 0 ≤ m o ∧ m o ≤ hi o
theorem okM.reg {m : M} (h : okM m) (o : Nat) (ho : o < 48) : 0 ≤ m o ∧ m o < 256 := by have := h o (by omega); rw [hi_reg o ho] at this; omega
theorem okM.len {m : M} (h : okM m) (v : Nat) (hv : v < 4) : 0 ≤ m (51 + v * 4 + 1) ∧ m (51 + v * 4 + 1) ≤ 256 := by
  have := h (51 + v * 4 + 1) (by omega); rw [hi_len v hv] at this; have := max_bd v; omega
theorem okM.lev {m : M} (h : okM m) (v : Nat) (hv : v < 4) : 0 ≤ m (51 + v * 4 + 2) ∧ m (51 + v * 4 + 2) < 16 := by
  have := h (51 + v * 4 + 2) (by omega); rw [hi_lev v hv] at this; omega
theorem okM.wt {m : M} (h : okM m) (v : Nat) (hv : v < 4) : 0 ≤ m (51 + v * 4 + 3) ∧ m (51 + v * 4 + 3) < 8 := by
  have := h (51 + v * 4 + 3) (by omega); rw [hi_wt v hv] at this; omega
theorem okM.div {m : M} (h : okM m) : 0 ≤ m 49 ∧ m 49 < 2048 := by have := h 49 (by omega); rw [show hi 49 = 2047 from rfl] at this; omega
theorem okM.step {m : M} (h : okM m) : 0 ≤ m 50 ∧ m 50 < 8 := by have := h 50 (by omega); rw [show hi 50 = 7 from rfl] at this; omega
theorem okM.pitch {m : M} (h : okM m) : 0 ≤ m 67 ∧ m 67 < 2048 := by have := h 67 (by omega); rw [show hi 67 = 2047 from rfl] at this; omega
theorem okM.slide {m : M} (h : okM m) : 0 ≤ m 68 ∧ m 68 < 9 := by have := h 68 (by omega); rw [show hi 68 = 8 from rfl] at this; omega
theorem ok_zero : okM zeroM := fun o _ => ⟨Int.le_refl _, by unfold zeroM hi; repeat' split <;> omega⟩
theorem ok_upd {m : M} (h : okM m) (o : Nat) (x : Int) (h0 : 0 ≤ x) (h1 : x ≤ hi o) : okM (upd m o x) := fun i hi2 => by
  unfold upd
  split
  · next e => subst e; exact ⟨h0, h1⟩
  · exact h i hi2
theorem ok_updr {m : M} (h : okM m) (o : Nat) (x : Int) (ho : o < 48) (h0 : 0 ≤ x) (h1 : x < 256) : okM (upd m o x) := ok_upd h o x h0 (by rw [hi_reg o ho]; omega)
theorem tf_bd (z : Bool) : 0 ≤ tf z ∧ tf z ≤ 1 := by cases z <;> decide
theorem time_bd {m : M} (h : okM m) : 0 ≤ timeV m ∧ timeV m ≤ 8 ∧ 0 ≤ perV m ∧ perV m < 8 := by
  unfold timeV perV; have := h.reg 0 (by omega); split <;> omega
theorem by_bd {m : M} (h : okM m) : 0 ≤ byV m ∧ byV m ≤ m 67 := by
  have hp := h.pitch
  have h2 : (0 : Int) < 2 ^ (shV m).toNat := Int.pow_pos (by decide)
  exact ⟨Int.ediv_nonneg hp.1 (Int.le_of_lt h2), Int.ediv_le_self _ hp.1⟩
theorem next_bd {m : M} (h : okM m) : 0 ≤ nextV m ∧ nextV m < 4096 := by
  have := by_bd h; have := h.pitch
  unfold nextV; split <;> omega
theorem ok_stop {m : M} (h : okM m) : okM (stopV m) := by
  unfold stopV; split
  · exact h
  · exact ok_upd h 51 0 (by decide) (by decide)
theorem ok_moved {m : M} (h : okM m) (h2 : nextV m ≤ 2047) : okM (movedV m) := by
  have hn := next_bd h
  have := h.reg 4 (by omega)
  unfold movedV
  generalize nextV m = r at *
  exact ok_updr (ok_updr (ok_upd h 67 r hn.1 (by rw [show hi 67 = 2047 from rfl]; omega)) 3 _ (by omega) (by omega) (by omega)) 4 _ (by omega) (by omega) (by omega)
theorem ok_slide {m : M} (h : okM m) : okM (slideV m) := by
  unfold slideV; split
  · next h2 =>
    split
    · exact h
    · exact ok_stop (ok_moved h h2)
  · exact ok_upd h 51 0 (by decide) (by decide)
theorem ok_csl {m : M} (h : okM m) : okM (cslV m) := by
  have hs := h.slide
  have ht := time_bd h
  have e68 : hi 68 = 8 := rfl
  unfold cslV; split
  · exact ok_upd h 68 _ (by omega) (by rw [e68]; omega)
  · split
    · exact ok_upd h 68 _ ht.1 (by rw [e68]; omega)
    · exact ok_slide (ok_upd h 68 _ ht.1 (by rw [e68]; omega))
theorem ok_sh1 {m : M} (h : okM m) (v : Nat) (hv : v < 4) : okM (sh1V m v) := by
  have hl := h (51 + v * 4 + 1) (by omega)
  unfold sh1V
  split
  · exact h
  · next hn =>
    have h1 := ok_upd h (51 + v * 4 + 1) (m (51 + v * 4 + 1) - 1) (by omega) (by omega)
    split
    · exact ok_upd h1 _ 0 (by decide) (by rw [hi_on v hv]; decide)
    · exact h1
theorem ok_shN {m : M} (h : okM m) : ∀ t, t ≤ 4 → okM (shN m t)
  | 0, _ => h
  | t + 1, ht => ok_sh1 (ok_shN h t (by omega)) t (by omega)
theorem ok_lev1 {m : M} (h : okM m) (v : Nat) (hv : v < 4) (x : Int) (h0 : 0 ≤ x) (h1 : x < 256) : okM (lev1V m v x) := by
  have hl := h.lev v hv
  have hw := h.wt v hv
  have hk := ok_upd h (51 + v * 4 + 3) (x % 8) (by omega) (by rw [hi_wt v hv]; omega)
  unfold lev1V
  split
  · exact h
  · split
    · exact ok_upd h _ _ (by omega) (by rw [hi_wt v hv]; omega)
    · split
      · split
        · exact ok_upd hk _ _ (by omega) (by rw [hi_lev v hv]; omega)
        · exact hk
      · split
        · exact ok_upd hk _ _ (by omega) (by rw [hi_lev v hv]; omega)
        · exact hk
theorem ok_levN {m : M} (h : okM m) : ∀ t, t ≤ 4 → okM (levN m t)
  | 0, _ => h
  | t + 1, ht => by
    have ih := ok_levN h t (by omega)
    have hr := ih.reg (t * 5 + 2) (by omega)
    unfold levN
    split
    · exact ih
    · exact ok_lev1 ih t (by omega) _ hr.1 hr.2
theorem ok_perf {m : M} (h : okM m) : okM (perfV m) := by
  have hs := ok_shN h 4 (by omega)
  unfold perfV
  split
  · exact hs
  · split
    · split
      · exact ok_csl hs
      · exact hs
    · split
      · exact ok_levN h 4 (by omega)
      · exact h
theorem ok_beat {m : M} (h : okM m) : okM (beatV m) := by
  have h1 := ok_perf (ok_upd h 49 0 (by decide) (by decide))
  have := h1.step
  exact ok_upd h1 50 _ (by omega) (by rw [show hi 50 = 7 from rfl]; omega)
theorem ok_tick {m : M} (h : okM m) : okM (tickV m) := by
  have := h.div
  unfold tickV
  split
  · split
    · exact ok_beat h
    · exact ok_upd h 49 _ (by omega) (by rw [show hi 49 = 2047 from rfl]; omega)
  · exact h
theorem ok_off {m : M} (h : okM m) : okM (offV m) := fun o ho => by
  have hz := ok_zero o ho
  unfold zeroM at hz
  unfold offV
  split
  · exact hz
  · split
    · exact h o ho
    · split
      · next e => subst e; exact h 49 (by omega)
      · split
        · next e => subst e; exact h 50 (by omega)
        · exact hz
theorem ok_on {m : M} (h : okM m) : okM (onV m) := by
  unfold onV
  refine ok_upd ?_ 48 1 (by decide) (by decide)
  split
  · exact h
  · exact ok_upd (ok_upd h 49 0 (by decide) (by decide)) 50 0 (by decide) (by decide)
theorem ok_stopU {m : M} (h : okM m) (v : Nat) (hv : v < 4) : okM (stopU m v) := by
  unfold stopU; split
  · exact h
  · exact ok_upd h _ 0 (by decide) (by rw [hi_on v hv]; decide)
theorem ok_load {m : M} (h : okM m) (v : Nat) (hv : v < 4) : okM (loadV m v) := by
  have hr := h.reg (v * 5 + 1) (by omega)
  unfold loadV
  refine ok_upd h _ _ ?_ ?_
  · unfold maxV; split <;> omega
  · rw [hi_len v hv]; split <;> omega
theorem ok_begin {m : M} (h : okM m) : okM (beginV m) := by
  have h3 := h.reg 3 (by omega)
  have h4 := h.reg 4 (by omega)
  have ht := time_bd h
  have k1 := ok_upd h 67 (m 4 % 8 * 256 + m 3) (by omega) (by rw [show hi 67 = 2047 from rfl]; omega)
  have k2 := ok_upd k1 68 (timeV m) ht.1 (by rw [show hi 68 = 8 from rfl]; omega)
  have k3 := ok_upd k2 69 (if perV m = 0 ∧ shV m = 0 then 0 else 1) (by split <;> omega) (by rw [show hi 69 = 1 from rfl]; split <;> omega)
  unfold beginV
  dsimp only
  split
  · exact k3
  · exact ok_stop k3
def trig4 (m : M) (v : Nat) : M := upd (upd (if m (51 + v * 4 + 1) = 0 then upd (upd m (51 + v * 4) (tf (readyV m v))) (51 + v * 4 + 1) (maxV v) else upd m (51 + v * 4) (tf (readyV m v))) (51 + v * 4 + 2) (m (v * 5 + 2) / 16)) (51 + v * 4 + 3) (m (v * 5 + 2) % 8)
theorem trig_eq (m : M) (v : Nat) : trigV m v = if v = 0 then beginV (trig4 m v) else trig4 m v := rfl
theorem ok_trig4 {m : M} (h : okM m) (v : Nat) (hv : v < 4) : okM (trig4 m v) := by
  have hr := h.reg (v * 5 + 2) (by omega)
  have hz := tf_bd (readyV m v)
  have k1 := ok_upd h (51 + v * 4) (tf (readyV m v)) hz.1 (by rw [hi_on v hv]; omega)
  have hm := max_bd v
  unfold trig4
  refine ok_upd (ok_upd ?_ _ _ (by omega) (by rw [hi_lev v hv]; omega)) _ _ (by omega) (by rw [hi_wt v hv]; omega)
  split
  · exact ok_upd k1 _ _ (by omega) (by rw [hi_len v hv]; omega)
  · exact k1
theorem ok_trig {m : M} (h : okM m) (v : Nat) (hv : v < 4) : okM (trigV m v) := by
  rw [trig_eq]
  split
  · exact ok_begin (ok_trig4 h v hv)
  · exact ok_trig4 h v hv
theorem ok_follow {m : M} (h : okM m) (v n : Nat) (hv : v < 4) : okM (followV m v n) := by
  unfold followV
  split
  · split
    · exact ok_stopU h v hv
    · exact h
  · split
    · exact ok_load h v hv
    · split
      · exact ok_stopU h v hv
      · split
        · split
          · exact ok_trig h v hv
          · exact h
        · exact h
theorem ok_put {m : M} (h : okM m) (n : Nat) (hn : n < 48) (x : Int) (h0 : 0 ≤ x) (h1 : x < 256) : okM (putV m n x) := by
  have k := ok_updr h n x hn h0 h1
  unfold putV
  split
  · exact ok_follow k _ _ (by omega)
  · exact k
theorem ok_write {m : M} (h : okM m) (n x : Int) (h0 : 0 ≤ x) (h1 : x < 256) : okM (writeV m n x) := by
  unfold writeV
  split
  · split
    · exact ok_on h
    · exact ok_off h
  · split
    · exact h
    · exact ok_put h _ (by omega) x h0 h1
end Go.Proofs.YtonmnpadmphbdaaDoor
