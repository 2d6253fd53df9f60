/-
  A voice that is on is ready, and the hardware is on: kept by each call: plain data.
-/
import Derived.Test.YtonmnpadmphbdaaDoorPr
import Derived.Deep.Cut
namespace Go.Proofs.YtonmnpadmphbdaaDoor
open Go.ChangeShapes Go.WideShapes Go.ChangeAt Go.RowKit
set_option linter.unusedVariables false
set_option linter.unusedSimpArgs false
set_option maxRecDepth 100000
/-- Each voice that is on is ready, and the hardware is on. -/
def inR (m : M) : Prop := ∀ v, v < 4 → m (51 + v * 4) = 1 → readyV m v = true ∧ m 48 = 1
/-- No voice is switched on, and what makes one ready is as it was. -/
structure Calm (m m2 : M) : Prop where
  on : ∀ v, v < 4 → m2 (51 + v * 4) = m (51 + v * 4) ∨ m2 (51 + v * 4) = 0
  rd : m2 2 = m 2 ∧ m2 7 = m 7 ∧ m2 10 = m 10 ∧ m2 17 = m 17
  pw : m2 48 = m 48
theorem Calm.refl (m : M) : Calm m m := ⟨fun _ _ => Or.inl rfl, ⟨rfl, rfl, rfl, rfl⟩, rfl⟩
theorem Calm.trans {a b c : M} (h : Calm a b) (k : Calm b c) : Calm a c :=
  ⟨fun v hv => by rcases k.on v hv with e | e; (rw [e]; exact h.on v hv); exact Or.inr e,
   ⟨k.rd.1.trans h.rd.1, k.rd.2.1.trans h.rd.2.1, k.rd.2.2.1.trans h.rd.2.2.1, k.rd.2.2.2.trans h.rd.2.2.2⟩, k.pw.trans h.pw⟩
theorem ready_same {m m2 : M} (h : m2 2 = m 2 ∧ m2 7 = m 7 ∧ m2 10 = m 10 ∧ m2 17 = m 17) (v : Nat) (hv : v < 4) : readyV m2 v = readyV m v := by
  obtain ⟨h0, h1, h2, h3⟩ := h
  rcases four hv with rfl | rfl | rfl | rfl
  · show decide (8 ≤ m2 2) = decide (8 ≤ m 2); rw [h0]
  · show decide (8 ≤ m2 7) = decide (8 ≤ m 7); rw [h1]
  · show decide (128 ≤ m2 10) = decide (128 ≤ m 10); rw [h2]
  · show decide (8 ≤ m2 17) = decide (8 ≤ m 17); rw [h3]
theorem inR.calm {m m2 : M} (h : inR m) (k : Calm m m2) : inR m2 := fun v hv h1 => by
  rcases k.on v hv with e | e
  · have := h v hv (e ▸ h1)
    exact ⟨(ready_same k.rd v hv).trans this.1, k.pw.trans this.2⟩
  · rw [e] at h1; cases h1
/-- A number that is no voice's switch and makes none ready may be set. -/
theorem calm_upd (m : M) (o : Nat) (x : Int) (h : ∀ v, v < 4 → o ≠ 51 + v * 4) (h2 : o ≠ 2 ∧ o ≠ 7 ∧ o ≠ 10 ∧ o ≠ 17 ∧ o ≠ 48) : Calm m (upd m o x) :=
  ⟨fun v hv => Or.inl (upd_ne _ _ _ _ (fun e => h v hv e.symm)),
   ⟨upd_ne _ _ _ _ (by omega), upd_ne _ _ _ _ (by omega), upd_ne _ _ _ _ (by omega), upd_ne _ _ _ _ (by omega)⟩, upd_ne _ _ _ _ (by omega)⟩
theorem calm_off (m : M) (v : Nat) (hv : v < 4) : Calm m (upd m (51 + v * 4) 0) :=
  ⟨fun u hu => by
    by_cases e : u = v
    · subst e; exact Or.inr (upd_same _ _ _)
    · exact Or.inl (upd_ne _ _ _ _ (by omega)),
   ⟨upd_ne _ _ _ _ (by omega), upd_ne _ _ _ _ (by omega), upd_ne _ _ _ _ (by omega), upd_ne _ _ _ _ (by omega)⟩, upd_ne _ _ _ _ (by omega)⟩
theorem calm_stop (m : M) : Calm m (stopV m) := by
  unfold stopV; split
  · exact Calm.refl m
  · exact calm_off m 0 (by omega)
theorem calm_moved (m : M) : Calm m (movedV m) := by
  unfold movedV
  exact ((calm_upd m 67 _ (by omega) (by omega)).trans (calm_upd _ 3 _ (by omega) (by omega))).trans (calm_upd _ 4 _ (by omega) (by omega))
theorem calm_slide (m : M) : Calm m (slideV m) := by
  unfold slideV; split
  · split
    · exact Calm.refl m
    · exact (calm_moved m).trans (calm_stop _)
  · exact calm_off m 0 (by omega)
theorem calm_csl (m : M) : Calm m (cslV m) := by
  unfold cslV; split
  · exact calm_upd m 68 _ (by omega) (by omega)
  · split
    · exact calm_upd m 68 _ (by omega) (by omega)
    · exact (calm_upd m 68 _ (by omega) (by omega)).trans (calm_slide _)
theorem calm_sh1 (m : M) (v : Nat) (hv : v < 4) : Calm m (sh1V m v) := by
  have k := fun x => calm_upd m (51 + v * 4 + 1) x (by omega) (by omega)
  unfold sh1V
  split
  · exact Calm.refl m
  · split
    · exact (k _).trans (calm_off _ v hv)
    · exact k _
theorem calm_shN (m : M) : ∀ t, t ≤ 4 → Calm m (shN m t)
  | 0, _ => Calm.refl m
  | t + 1, h => (calm_shN m t (by omega)).trans (calm_sh1 _ t (by omega))
theorem calm_lev1 (m : M) (v : Nat) (hv : v < 4) (x : Int) : Calm m (lev1V m v x) := by
  have k3 := fun y => calm_upd m (51 + v * 4 + 3) y (by omega) (by omega)
  have k2 := fun m y => calm_upd m (51 + v * 4 + 2) y (by omega) (by omega)
  unfold lev1V
  split
  · exact Calm.refl m
  · split
    · exact k3 _
    · split
      · split
        · exact (k3 _).trans (k2 _ _)
        · exact k3 _
      · split
        · exact (k3 _).trans (k2 _ _)
        · exact k3 _
theorem calm_levN (m : M) : ∀ t, t ≤ 4 → Calm m (levN m t)
  | 0, _ => Calm.refl m
  | t + 1, h => by
    have ih := calm_levN m t (by omega)
    unfold levN
    split
    · exact ih
    · exact ih.trans (calm_lev1 _ t (by omega) _)
theorem calm_perf (m : M) : Calm m (perfV m) := by
  unfold perfV; split
  · exact calm_shN m 4 (by omega)
  · split
    · split
      · exact (calm_shN m 4 (by omega)).trans (calm_csl _)
      · exact calm_shN m 4 (by omega)
    · split
      · exact calm_levN m 4 (by omega)
      · exact Calm.refl m
theorem calm_tick (m : M) : Calm m (tickV m) := by
  unfold tickV; split
  · split
    · exact ((calm_upd m 49 0 (by omega) (by omega)).trans (calm_perf _)).trans (calm_upd _ 50 _ (by omega) (by omega))
    · exact calm_upd m 49 _ (by omega) (by omega)
  · exact Calm.refl m
theorem inR_it {m : M} (h : inR m) : ∀ t, inR (itN m t)
  | 0 => h
  | t + 1 => (inR_it h t).calm (calm_tick _)
theorem inR_off (m : M) : inR (offV m) := fun v hv h => by
  have e : offV m (51 + v * 4) = 0 := by
    unfold offV
    rw [if_neg (by omega), if_neg (by omega), if_neg (by omega), if_neg (by omega)]
  rw [e] at h; cases h
theorem inR_on {m : M} (h : inR m) : inR (onV m) := fun v hv h1 => by
  have e : ∀ o, o ≠ 48 → o ≠ 49 → o ≠ 50 → onV m o = m o := fun o a b c => by
    unfold onV
    rw [upd_ne _ _ _ _ a]
    split
    · rfl
    · rw [upd_ne _ _ _ _ c, upd_ne _ _ _ _ b]
  rw [e _ (by omega) (by omega) (by omega)] at h1
  exact ⟨(ready_same ⟨e 2 (by omega) (by omega) (by omega), e 7 (by omega) (by omega) (by omega), e 10 (by omega) (by omega) (by omega), e 17 (by omega) (by omega) (by omega)⟩ v hv).trans (h v hv h1).1, on_48 m⟩
/-- Behind a register's write a voice that is on is ready, but perhaps for the voice v. -/
def but (m : M) (v : Nat) : Prop := m 48 = 1 ∧ ∀ u, u < 4 → u ≠ v → m (51 + u * 4) = 1 → readyV m u = true
theorem inR_stopU {m : M} (v : Nat) (hv : v < 4) (h : but m v) : inR (stopU m v) := by
  unfold stopU
  split
  · next hr => exact fun u hu h1 => ⟨by
      by_cases e : u = v
      · subst e; exact hr
      · exact h.2 u hu e h1, h.1⟩
  · intro u hu h1
    have c := calm_off m v hv
    by_cases e : u = v
    · subst e; rw [upd_same] at h1; cases h1
    · rw [upd_ne _ _ _ _ (by omega)] at h1
      exact ⟨(ready_same c.rd u hu).trans (h.2 u hu e h1), c.pw.trans h.1⟩
theorem calm_begin (m : M) : Calm m (beginV m) := by
  have k := ((calm_upd m 67 (m 4 % 8 * 256 + m 3) (by omega) (by omega)).trans (calm_upd _ 68 (timeV m) (by omega) (by omega))).trans (calm_upd _ 69 (if perV m = 0 ∧ shV m = 0 then 0 else 1) (by omega) (by omega))
  unfold beginV
  (try dsimp only)
  split
  · exact k
  · exact k.trans (calm_stop _)
theorem inR_trig4 {m : M} (v : Nat) (hv : v < 4) (h : inR m) (h48 : m 48 = 1) : inR (trig4 m v) := by
  have ho : ∀ u, u < 4 → trig4 m v (51 + u * 4) = if u = v then tf (readyV m v) else m (51 + u * 4) := fun u hu => by
    unfold trig4
    rw [upd_ne _ _ _ _ (by omega), upd_ne _ _ _ _ (by omega)]
    by_cases e : u = v
    · subst e
      rw [if_pos rfl]
      split
      · rw [upd_ne _ _ _ _ (by omega), upd_same]
      · rw [upd_same]
    · rw [if_neg e]
      split
      · rw [upd_ne _ _ _ _ (by omega), upd_ne _ _ _ _ (by omega)]
      · rw [upd_ne _ _ _ _ (by omega)]
  have hr := fun o ho => trig4_reg m v o ho
  have hp : trig4 m v 48 = m 48 := by
    unfold trig4
    rw [upd_ne _ _ _ _ (by omega), upd_ne _ _ _ _ (by omega)]
    split
    · rw [upd_ne _ _ _ _ (by omega), upd_ne _ _ _ _ (by omega)]
    · rw [upd_ne _ _ _ _ (by omega)]
  have hs := fun u hu => ready_same (m := m) (m2 := trig4 m v) ⟨hr 2 (by omega), hr 7 (by omega), hr 10 (by omega), hr 17 (by omega)⟩ u hu
  intro u hu h1
  rw [ho u hu] at h1
  refine ⟨(hs u hu).trans ?_, hp.trans h48⟩
  by_cases e : u = v
  · subst e
    rw [if_pos rfl] at h1
    cases hz : readyV m u with
    | true => rfl
    | false => rw [hz] at h1; cases h1
  · rw [if_neg e] at h1; exact (h u hu h1).1
theorem inR_trig {m : M} (v : Nat) (hv : v < 4) (h : inR m) (h48 : m 48 = 1) : inR (trigV m v) := by
  rw [trig_eq]
  split
  · exact (inR_trig4 v hv h h48).calm (calm_begin _)
  · exact inR_trig4 v hv h h48
theorem calm_load (m : M) (v : Nat) (hv : v < 4) : Calm m (loadV m v) := calm_upd m _ _ (by omega) (by omega)
theorem inR_put {m : M} (h : inR m) (n : Nat) (hn : n < 48) (x : Int) (h48 : m 48 = 1 ∨ 32 ≤ n) : inR (putV m n x) := by
  unfold putV
  by_cases g : n / 5 < 4
  · rw [if_pos g]
    have h48 : m 48 = 1 := by rcases h48 with k | k; exact k; omega
    have p48 : upd m n x 48 = 1 := (upd_ne _ _ _ _ (by omega)).trans h48
    have on : ∀ u, u < 4 → upd m n x (51 + u * 4) = m (51 + u * 4) := fun u hu => upd_ne _ _ _ _ (by omega)
    have hb : but (upd m n x) (n / 5) := ⟨p48, fun u hu ne h1 => by
      rw [on u hu] at h1
      have := (h u hu h1).1
      unfold readyV at this ⊢
      split
      · rw [upd_ne _ _ _ _ (by omega)]; rwa [if_pos (by assumption)] at this
      · rw [upd_ne _ _ _ _ (by omega)]; rwa [if_neg (by assumption)] at this⟩
    have hi : (n % 5 ≠ 2 ∧ ¬ (n % 5 = 0 ∧ n / 5 = 2)) → inR (upd m n x) := fun hne u hu h1 => ⟨by
      rw [on u hu] at h1
      have := (h u hu h1).1
      unfold readyV at this ⊢
      split
      · rw [upd_ne _ _ _ _ (by omega)]; rwa [if_pos (by assumption)] at this
      · rw [upd_ne _ _ _ _ (by omega)]; rwa [if_neg (by assumption)] at this, p48⟩
    unfold followV
    split
    · split
      · exact inR_stopU _ g hb
      · exact hi (by omega)
    · split
      · exact (hi (by omega)).calm (calm_load _ _ g)
      · split
        · exact inR_stopU _ g hb
        · split
          · split
            · exact inR_trig _ g (hi (by omega)) p48
            · exact hi (by omega)
          · exact hi (by omega)
  · rw [if_neg g]
    exact h.calm (calm_upd m n x (by omega) (by omega))
theorem inR_write {m : M} (h : inR m) (n x : Int) : inR (writeV m n x) := by
  unfold writeV
  split
  · split
    · exact inR_on h
    · exact inR_off m
  · split
    · exact h
    · next hn => exact inR_put h _ (by omega) x (by by_cases q : m 48 = 1; exact Or.inl q; exact Or.inr (by omega))
theorem inR_zero : inR zeroM := fun v _ h => by cases h
theorem inR_then {m : M} (h : inR m) (k n x : Int) : inR (thenV m k n x) := by
  unfold thenV
  split
  · exact inR_write (inR_it h _) n x
  · exact inR_it h _
theorem inR_play (f g h : Nat → Int) : ∀ t, inR (playN f g h t)
  | 0 => inR_zero
  | t + 1 => inR_then (inR_play f g h t) _ _ _
end Go.Proofs.YtonmnpadmphbdaaDoor
