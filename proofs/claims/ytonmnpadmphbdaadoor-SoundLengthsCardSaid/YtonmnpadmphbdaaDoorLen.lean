/-
  A length that is counted: plain data.
-/
import Derived.Test.YtonmnpadmphbdaaDoorLv
import Derived.Deep.Cut
namespace Go.Proofs.YtonmnpadmphbdaaDoor
open Go.ChangeShapes Go.WideShapes Go.ChangeAt Go.RowKit
set_option linter.unusedVariables false
set_option linter.unusedSimpArgs false
set_option maxRecDepth 100000
/-- The hardware is on, at the beginning of a beat; of the voices only k may be counted; no level is turned. -/
structure Cnt (m : M) (k : Nat) (c : Int) : Prop extends Still m where
  cl : ∀ v, v < 4 → v ≠ k → m (v * 5 + 4) / 64 % 2 = 0
  own : m (k * 5 + 4) / 64 % 2 = c
  lv : ∀ v, v < 4 → m (v * 5 + 2) % 8 = 0
theorem Cnt.upd {m : M} {k : Nat} {c : Int} (h : Cnt m k c) (o : Nat) (y : Int) (h0 : 49 < o) (h1 : o ≠ 69) (hk : k < 4) : Cnt (upd m o y) k c :=
  ⟨⟨(upd_ne _ _ _ _ (by omega)).trans h.on, (upd_ne _ _ _ _ (by omega)).trans h.div, by rw [upd_ne _ _ _ _ (by omega)]; exact h.sl⟩,
   fun v hv hn => by rw [upd_ne _ _ _ _ (by omega)]; exact h.cl v hv hn, by rw [upd_ne _ _ _ _ (by omega)]; exact h.own, fun v hv => by rw [upd_ne _ _ _ _ (by omega)]; exact h.lv v hv⟩
theorem levN_still {m : M} (h : ∀ v, v < 4 → m (v * 5 + 2) % 8 = 0) : ∀ t, t ≤ 4 → levN m t = m
  | 0, _ => rfl
  | t + 1, ht => by
    show (if t = 2 then levN m t else lev1V (levN m t) t (levN m t (t * 5 + 2))) = m
    rw [levN_still h t (by omega)]
    split
    · rfl
    · exact lev1_clear _ _ _ (h t (by omega))
theorem cnt_sh1 {m : M} {k : Nat} {c : Int} (h : Cnt m k c) (hk : k < 4) : Cnt (sh1V m k) k c := by
  unfold sh1V
  split
  · exact h
  · split
    · exact (h.upd _ _ (by omega) (by omega) hk).upd _ _ (by omega) (by omega) hk
    · exact h.upd _ _ (by omega) (by omega) hk
theorem shN_one {m : M} {k : Nat} {c : Int} (h : Cnt m k c) (hk : k < 4) : ∀ t, t ≤ 4 → shN m t = if k < t then sh1V m k else m
  | 0, _ => by rw [if_neg (by omega)]; rfl
  | t + 1, ht => by
    show sh1V (shN m t) t = _
    rw [shN_one h hk t (by omega)]
    by_cases e : k < t
    · rw [if_pos e, if_pos (by omega)]
      exact sh1_clear _ _ ((cnt_sh1 h hk).cl t (by omega) (by omega))
    · rw [if_neg e]
      by_cases e2 : k = t
      · subst e2; rw [if_pos (by omega)]
      · rw [if_neg (by omega)]
        exact sh1_clear _ _ (h.cl t (by omega) (by omega))
/-- A length, and whether the voice is on, behind one beat more. -/
def lenP (c s : Int) (p : Int × Int) : Int × Int := if s % 2 = 0 ∧ c = 1 ∧ 0 < p.1 then (p.1 - 1, if p.1 - 1 = 0 then 0 else p.2) else p
theorem cnt_beat {m : M} {k : Nat} {c : Int} (h : Cnt m k c) (hk : k < 4) (hc : c = 0 ∨ c = 1) (s : Int) (h0 : 0 ≤ s) (h1 : s < 8) (hs : m 50 = s) :
    Cnt (itN m 2048) k c ∧ itN m 2048 50 = (s + 1) % 8 ∧ (itN m 2048 (51 + k * 4 + 1), itN m 2048 (51 + k * 4)) = lenP c s (m (51 + k * 4 + 1), m (51 + k * 4)) := by
  have hp : perfV m = if s % 2 = 0 then sh1V m k else m := by
    have k69 : ¬ sh1V m k 69 = 1 := (cnt_sh1 h hk).sl
    have hs4 : shN m 4 = sh1V m k := by rw [shN_one h hk 4 (by omega), if_pos hk]
    have hl4 : levN m 4 = m := levN_still h.lv 4 (by omega)
    unfold perfV
    rw [hs4, hl4, hs]
    simp only [if_neg k69]
    by_cases a : s = 0 ∨ s = 4
    · have e0 : s % 2 = 0 := by omega
      simp only [if_pos a, if_pos e0]
    · by_cases b : s = 2 ∨ s = 6
      · have e0 : s % 2 = 0 := by omega
        simp only [if_neg a, if_pos b, if_pos e0]
      · have e0 : ¬ s % 2 = 0 := by omega
        simp only [if_neg a, if_neg b, if_neg e0, ite_self]
  rw [it_beat h.toStill, hp]
  unfold lenP
  dsimp only
  by_cases e : s % 2 = 0
  · rw [if_pos e]
    refine ⟨(cnt_sh1 h hk).upd 50 _ (by omega) (by omega) hk, ?_, ?_⟩
    · rw [upd_same]
      have : sh1V m k 50 = m 50 := by
        unfold sh1V
        split
        · rfl
        · split
          · rw [upd_ne _ _ _ _ (by omega), upd_ne _ _ _ _ (by omega)]
          · rw [upd_ne _ _ _ _ (by omega)]
      rw [this, hs]
    · rw [upd_ne _ _ _ _ (by omega), upd_ne _ _ _ _ (by omega)]
      unfold sh1V
      rw [h.own]
      by_cases g : c = 0 ∨ m (51 + k * 4 + 1) ≤ 0
      · have hn : ¬ (s % 2 = 0 ∧ c = 1 ∧ 0 < m (51 + k * 4 + 1)) := by omega
        rw [if_pos g, if_neg hn]
      · have hn : s % 2 = 0 ∧ c = 1 ∧ 0 < m (51 + k * 4 + 1) := by omega
        rw [if_neg g, if_pos hn]
        by_cases z : m (51 + k * 4 + 1) - 1 = 0
        · rw [if_pos z, if_pos z, upd_ne _ _ _ _ (by omega), upd_same, upd_same]
        · rw [if_neg z, if_neg z, upd_same, upd_ne _ _ _ _ (by omega)]
  · rw [if_neg e, if_neg (by omega)]
    refine ⟨h.upd 50 _ (by omega) (by omega) hk, by rw [upd_same, hs], ?_⟩
    rw [upd_ne _ _ _ _ (by omega), upd_ne _ _ _ _ (by omega)]
theorem cnt_free {m : M} {k : Nat} (h : Cnt m k 0) (hk : k < 4) (hs : m 50 = 0) (ho : m (51 + k * 4) = 1) : ∀ n : Nat,
    Cnt (itN m (2048 * n)) k 0 ∧ itN m (2048 * n) 50 = ((n % 8 : Nat) : Int) ∧ itN m (2048 * n) (51 + k * 4) = 1
  | 0 => ⟨h, hs, ho⟩
  | n + 1 => by
    obtain ⟨a, b, c⟩ := cnt_free h hk hs ho n
    obtain ⟨d, e, f⟩ := cnt_beat a hk (Or.inl rfl) _ (by omega) (by omega) b
    rw [itN_mul]
    unfold lenP at f
    rw [if_neg (by omega)] at f
    exact ⟨d, by rw [e]; omega, ((Prod.mk.inj f).2).trans c⟩
theorem cnt_down {m : M} {k : Nat} (h : Cnt m k 1) (hk : k < 4) (hs : m 50 = 0) (ho : m (51 + k * 4) = 1) (L : Nat) (hL : 0 < L) (hl : m (51 + k * 4 + 1) = L) : ∀ n : Nat, n ≤ 2 * L - 1 →
    Cnt (itN m (2048 * n)) k 1 ∧ itN m (2048 * n) 50 = ((n % 8 : Nat) : Int) ∧ itN m (2048 * n) (51 + k * 4 + 1) = (L : Int) - ((n + 1) / 2 : Nat) ∧ itN m (2048 * n) (51 + k * 4) = if n = 2 * L - 1 then 0 else 1
  | 0, _ => ⟨h, hs, by rw [show itN m (2048 * 0) = m from rfl, hl]; omega, by rw [if_neg (by omega)]; exact ho⟩
  | n + 1, hn => by
    obtain ⟨a, b, c, o⟩ := cnt_down h hk hs ho L hL hl n (by omega)
    obtain ⟨d, e, f⟩ := cnt_beat a hk (Or.inr rfl) _ (by omega) (by omega) b
    rw [itN_mul]
    rw [if_neg (by omega)] at o
    rw [c, o] at f
    unfold lenP at f
    dsimp only at f
    refine ⟨d, by rw [e]; omega, ?_⟩
    by_cases g : n % 2 = 0
    · rw [if_pos (by omega)] at f
      obtain ⟨f1, f2⟩ := Prod.mk.inj f
      refine ⟨by rw [f1]; omega, ?_⟩
      rw [f2]
      by_cases q : n + 1 = 2 * L - 1
      · rw [if_pos q, if_pos (by omega)]
      · rw [if_neg q, if_neg (by omega)]
    · rw [if_neg (by omega)] at f
      obtain ⟨f1, f2⟩ := Prod.mk.inj f
      exact ⟨by rw [f1]; omega, by rw [f2, if_neg (by omega)]⟩
def lenM (k : Nat) (x b : Int) : M := writeV (writeV (writeV (writeV (writeV zeroM 22 128) 10 128) ((k * 5 + 2 : Nat) : Int) 240) ((k * 5 + 1 : Nat) : Int) x) ((k * 5 + 4 : Nat) : Int) b
theorem wr_ten : writeV (onV zeroM) 10 128 = upd (onV zeroM) 10 128 := by
  have e : writeV (onV zeroM) ((10 : Nat) : Int) 128 = putV (onV zeroM) 10 128 := wr_put _ 10 128 (on_48 _) (by omega)
  refine e.trans ?_
  show followV (upd (onV zeroM) 10 128) 2 0 = _
  show stopU (upd (onV zeroM) 10 128) 2 = _
  unfold stopU
  rw [if_pos (show readyV (upd (onV zeroM) 10 128) 2 = true from rfl)]
theorem wr_len (m : M) (k : Nat) (x : Int) (h48 : m 48 = 1) (hk : k < 4) : writeV m ((k * 5 + 1 : Nat) : Int) x = upd (upd m (k * 5 + 1) x) (51 + k * 4 + 1) (maxV k - (if k = 2 then x else x % 64)) := by
  rw [wr_put m _ x h48 (by omega), put_at m k 1 x hk (by omega)]
  show loadV (upd m (k * 5 + 1) x) k = _
  unfold loadV
  rw [upd_same]
/-- A voice that begins with a length. -/
theorem len_init (k : Nat) (hk : k < 4) (x b c : Int) (hb : 128 ≤ b) (hc : b / 64 % 2 = c) (L : Int) (hL : maxV k - (if k = 2 then x else x % 64) = L) (hL0 : ¬ L = 0) :
    Cnt (lenM k x b) k c ∧ lenM k x b 50 = 0 ∧ lenM k x b (51 + k * 4) = 1 ∧ lenM k x b (51 + k * 4 + 1) = L := by
  have p1 : onV zeroM 48 = 1 := on_48 _
  have p2 : upd (onV zeroM) 10 128 48 = 1 := (upd_ne _ _ _ _ (by omega)).trans p1
  have on0 : ∀ o, o ≠ 10 → o ≠ 48 → upd (onV zeroM) 10 128 o = 0 := fun o h1 h2 => by rw [upd_ne _ _ _ _ h1, on_zero, if_neg h2]
  have p3 : upd (upd (onV zeroM) 10 128) (k * 5 + 2) 240 48 = 1 := (upd_ne _ _ _ _ (by omega)).trans p2
  have e : lenM k x b = trigV (upd (upd (upd (upd (upd (onV zeroM) 10 128) (k * 5 + 2) 240) (k * 5 + 1) x) (51 + k * 4 + 1) L) (k * 5 + 4) b) k := by
    unfold lenM
    rw [show writeV zeroM 22 128 = onV zeroM from rfl, wr_ten, wr_env _ k 240 p2 hk (on0 _ (by omega) (by omega)), wr_len _ k x p3 hk, hL, wr_trig _ k b (by rw [upd_ne _ _ _ _ (by omega), upd_ne _ _ _ _ (by omega)]; exact p3) hk hb]
  rw [e]
  have v : ∀ o, o ≠ 10 → o ≠ 48 → o ≠ k * 5 + 2 → o ≠ k * 5 + 1 → o ≠ 51 + k * 4 + 1 → o ≠ k * 5 + 4 → upd (upd (upd (upd (upd (onV zeroM) 10 128) (k * 5 + 2) 240) (k * 5 + 1) x) (51 + k * 4 + 1) L) (k * 5 + 4) b o = 0 := fun o h1 h2 h3 h4 h5 h6 => by
    rw [upd_ne _ _ _ _ h6, upd_ne _ _ _ _ h5, upd_ne _ _ _ _ h4, upd_ne _ _ _ _ h3, on0 _ h1 h2]
  have vb : upd (upd (upd (upd (upd (onV zeroM) 10 128) (k * 5 + 2) 240) (k * 5 + 1) x) (51 + k * 4 + 1) L) (k * 5 + 4) b (k * 5 + 4) = b := upd_same _ _ _
  have vL : upd (upd (upd (upd (upd (onV zeroM) 10 128) (k * 5 + 2) 240) (k * 5 + 1) x) (51 + k * 4 + 1) L) (k * 5 + 4) b (51 + k * 4 + 1) = L := by rw [upd_ne _ _ _ _ (by omega), upd_same]
  have v2 : upd (upd (upd (upd (upd (onV zeroM) 10 128) (k * 5 + 2) 240) (k * 5 + 1) x) (51 + k * 4 + 1) L) (k * 5 + 4) b (k * 5 + 2) = 240 := by
    rw [upd_ne _ _ _ _ (by omega), upd_ne _ _ _ _ (by omega), upd_ne _ _ _ _ (by omega), upd_same]
  have v48 : upd (upd (upd (upd (upd (onV zeroM) 10 128) (k * 5 + 2) 240) (k * 5 + 1) x) (51 + k * 4 + 1) L) (k * 5 + 4) b 48 = 1 := by
    rw [upd_ne _ _ _ _ (by omega), upd_ne _ _ _ _ (by omega), upd_ne _ _ _ _ (by omega)]; exact p3
  have v10 : k = 2 → upd (upd (upd (upd (upd (onV zeroM) 10 128) (k * 5 + 2) 240) (k * 5 + 1) x) (51 + k * 4 + 1) L) (k * 5 + 4) b 10 = 128 := fun hk2 => by
    rw [upd_ne _ _ _ _ (by omega), upd_ne _ _ _ _ (by omega), upd_ne _ _ _ _ (by omega), upd_ne _ _ _ _ (by omega), upd_same]
  generalize upd (upd (upd (upd (upd (onV zeroM) 10 128) (k * 5 + 2) 240) (k * 5 + 1) x) (51 + k * 4 + 1) L) (k * 5 + 4) b = m at *
  have rdy : readyV m k = true := by
    unfold readyV
    by_cases q : k = 2
    · rw [if_pos q, v10 q]; rfl
    · rw [if_neg q, v2]; rfl
  obtain ⟨a, l, _, _, e69, f⟩ := trig_own m k hk (v 0 (by omega) (by omega) (by omega) (by omega) (by omega) (by omega)) (v 69 (by omega) (by omega) (by omega) (by omega) (by omega) (by omega))
  rw [rdy] at a
  rw [vL, if_neg hL0] at l
  refine ⟨⟨⟨(f 48 (by omega)).trans v48, (f 49 (by omega)).trans (v 49 (by omega) (by omega) (by omega) (by omega) (by omega) (by omega)), by rw [e69]; decide⟩, fun u hu hn => ?_, by rw [f _ (by omega), vb]; exact hc, fun u hu => ?_⟩, (f 50 (by omega)).trans (v 50 (by omega) (by omega) (by omega) (by omega) (by omega) (by omega)), a, l⟩
  · rw [f _ (by omega), v _ (by omega) (by omega) (by omega) (by omega) (by omega) (by omega)]; rfl
  · rw [f _ (by omega)]
    by_cases q : u = k
    · subst q; rw [v2]; rfl
    · rw [v _ (by omega) (by omega) (by omega) (by omega) (by omega) (by omega)]; rfl
end Go.Proofs.YtonmnpadmphbdaaDoor
