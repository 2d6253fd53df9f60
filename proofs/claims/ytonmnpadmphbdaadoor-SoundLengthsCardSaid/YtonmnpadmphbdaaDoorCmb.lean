/-
  The ways put together: each function on a board, as the plain data say: for every board in its ranges.
-/
import Derived.Test.YtonmnpadmphbdaaDoorFw
import Derived.Test.YtonmnpadmphbdaaDoorOk
import Derived.Deep.Cut
import Derived.BigQuiet
import Derived.WalkSmall
namespace Go.Proofs.YtonmnpadmphbdaaDoor
open Go.ChangeShapes Go.WideShapes Go.ChangeAt Go.RowKit
set_option linter.unusedVariables false
set_option linter.unusedSimpArgs false
set_option maxRecDepth 100000
theorem next_c (b : Nat) (m : M) (h : okM m)  (w : World) (hh : Has w b (enc m)) : Calls Tryd.prog 36 #[.pointer (some ⟨b, 0, none⟩)] w fun q_ w' => q_ = .returned (.int .i64 (nextV m)) ∧ Below w.heap.size w w' := by
  have h0 := h.reg 0 (by omega)
  have hp := h.pitch
  have hb := by_bd h
  unfold byV shV at hb
  unfold nextV byV shV
  by_cases g : m 0 / 8 % 2 = 1
  · rw [if_pos g]; exact next_1 b m (m 0) _ (m 67) _ _ rfl h0.1 h0.2 rfl rfl hp.1 hp.2 g rfl ⟨hb.1, by omega⟩ (by omega) w hh
  · rw [if_neg g]; exact next_0 b m (m 0) _ (m 67) _ _ rfl h0.1 h0.2 rfl rfl hp.1 hp.2 g rfl ⟨hb.1, by omega⟩ rfl w hh
theorem stopHigh_c (b : Nat) (m : M) (h : okM m)  (w : World) (hh : Has w b (enc m)) : Calls Tryd.prog 35 #[.pointer (some ⟨b, 0, none⟩)] w fun q_ w' => q_ = .returned (.bool (decide (¬ nextV m ≤ 2047))) ∧ Has w' b (enc (stopV m)) ∧ Keeps b w w' := by
  unfold stopV
  by_cases g : nextV m ≤ 2047
  · rw [if_pos g, decide_eq_false (by simpa using g)]; exact stopHigh_0 b m _ g (fun W hW => next_c b m h W hW) w hh
  · rw [if_neg g, decide_eq_true g]; exact stopHigh_1 b m _ g (fun W hW => next_c b m h W hW) w hh
theorem slide_c (b : Nat) (m : M) (h : okM m)  (w : World) (hh : Has w b (enc m)) : Calls Tryd.prog 32 #[.pointer (some ⟨b, 0, none⟩)] w fun q_ w' => q_ = .returned (.tuple #[]) ∧ Has w' b (enc (slideV m)) ∧ Keeps b w w' := by
  have h0 := h.reg 0 (by omega)
  have h4 := h.reg 4 (by omega)
  unfold slideV
  by_cases g : nextV m ≤ 2047
  · have hs : ∀ W, Has W b (enc m) → Calls Tryd.prog 35 #[.pointer (some ⟨b, 0, none⟩)] W fun q_ w' => q_ = .returned (.bool false) ∧ Has w' b (enc m) ∧ Keeps b W w' := fun W hW => by
      have := stopHigh_c b m h W hW
      unfold stopV at this
      rwa [if_pos g, decide_eq_false (by simpa using g)] at this
    rw [if_pos g]
    by_cases g2 : shV m = 0
    · rw [if_pos g2]; exact slide_1 b m (m 0) _ rfl h0.1 h0.2 rfl g2 hs w hh
    · rw [if_neg g2]
      exact slide_2 b m (m 0) _ rfl h0.1 h0.2 rfl g2 (nextV m) (m 4) ⟨(next_bd h).1, g⟩ rfl h4.1 h4.2 _ _ hs (fun W hW => next_c b m h W hW) (fun W hW => stopHigh_c b (movedV m) (ok_moved h g) W hW) w hh
  · rw [if_neg g]
    exact slide_0 b m (fun W hW => by
      have := stopHigh_c b m h W hW
      unfold stopV at this
      rwa [if_neg g, decide_eq_true g] at this) w hh
theorem csl_c (b : Nat) (m : M) (h : okM m)  (w : World) (hh : Has w b (enc m)) : Calls Tryd.prog 25 #[.pointer (some ⟨b, 0, none⟩)] w fun q_ w' => q_ = .returned (.tuple #[]) ∧ Has w' b (enc (cslV m)) ∧ Keeps b w w' := by
  have h0 := h.reg 0 (by omega)
  have hs := h.slide
  have ht := time_bd h
  unfold cslV
  by_cases g : 1 < m 68
  · rw [if_pos g]; exact csl_0 b m _ rfl g (by omega) w hh
  · rw [if_neg g]
    by_cases g2 : perV m = 0
    · rw [if_pos g2]
      have e : timeV m = 8 := if_pos g2
      rw [e]
      exact csl_1 b m (m 0) _ _ rfl h0.1 h0.2 rfl rfl g g2 w hh
    · rw [if_neg g2]
      have e : timeV m = perV m := if_neg g2
      have k := ok_upd h 68 (timeV m) ht.1 (by rw [show hi 68 = 8 from rfl]; omega)
      rw [e] at k ⊢
      exact csl_2 b m (m 0) _ _ rfl h0.1 h0.2 rfl rfl g g2 _ (fun W hW => slide_c b _ k W hW) w hh
theorem begin_c (b : Nat) (m : M) (h : okM m)  (w : World) (hh : Has w b (enc m)) : Calls Tryd.prog 29 #[.pointer (some ⟨b, 0, none⟩)] w fun q_ w' => q_ = .returned (.tuple #[]) ∧ Has w' b (enc (beginV m)) ∧ Keeps b w w' := by
  have h0 := h.reg 0 (by omega)
  have h3 := h.reg 3 (by omega)
  have h4 := h.reg 4 (by omega)
  have ht := time_bd h
  have k1 := ok_upd h 67 (m 4 % 8 * 256 + m 3) (by omega) (by rw [show hi 67 = 2047 from rfl]; omega)
  have k2 := ok_upd k1 68 (timeV m) ht.1 (by rw [show hi 68 = 8 from rfl]; omega)
  have k3 := ok_upd k2 69 1 (by decide) (by decide)
  unfold beginV
  dsimp only
  by_cases g : perV m = 0
  · have e : timeV m = 8 := if_pos g
    rw [e] at k3 ⊢
    by_cases g2 : shV m = 0
    · rw [if_pos g2, if_pos ⟨g, g2⟩]; exact begin_0 b m (m 0) _ _ (m 4) (m 3) rfl h0.1 h0.2 rfl rfl rfl h4.1 h4.2 rfl h3.1 h3.2 g g2 w hh
    · rw [if_neg g2, if_neg (fun k => g2 k.2)]; exact begin_1 b m (m 0) _ _ (m 4) (m 3) rfl h0.1 h0.2 rfl rfl rfl h4.1 h4.2 rfl h3.1 h3.2 g g2 _ _ (fun W hW => stopHigh_c b _ k3 W hW) w hh
  · have e : timeV m = perV m := if_neg g
    rw [e] at k3 ⊢
    rw [if_neg (fun k : perV m = 0 ∧ shV m = 0 => g k.1)]
    by_cases g2 : shV m = 0
    · rw [if_pos g2]; exact begin_2 b m (m 0) _ _ (m 4) (m 3) rfl h0.1 h0.2 rfl rfl rfl h4.1 h4.2 rfl h3.1 h3.2 g g2 w hh
    · rw [if_neg g2]; exact begin_3 b m (m 0) _ _ (m 4) (m 3) rfl h0.1 h0.2 rfl rfl rfl h4.1 h4.2 rfl h3.1 h3.2 g g2 _ _ (fun W hW => stopHigh_c b _ k3 W hW) w hh
theorem ready_c (b : Nat) (m : M) (h : okM m) (v : Int) (vn : Nat) (hv : v = vn) (h4 : vn < 4) (z : Bool) (hz : readyV m vn = z) (w : World) (hh : Has w b (enc m)) : Calls Tryd.prog 27 #[.pointer (some ⟨b, 0, none⟩), .int .i64 v] w fun q_ w' => q_ = .returned (.bool z) ∧ w' = w := by
  subst hz
  unfold readyV
  by_cases g : vn = 2
  · subst g hv
    have h0 := h.reg 10 (by omega)
    rw [if_pos rfl]
    exact ready_2 b m (m 10) h0.1 h0.2 rfl _ rfl w hh
  · have h0 := h.reg (vn * 5 + 2) (by omega)
    rw [if_neg g]
    exact ready_n b m (m (vn * 5 + 2)) h0.1 h0.2 v vn hv h4 (by omega) rfl _ rfl w hh
theorem stopUn_c (b : Nat) (m : M) (h : okM m) (v : Int) (vn : Nat) (hv : v = vn) (h4 : vn < 4) (w : World) (hh : Has w b (enc m)) : Calls Tryd.prog 20 #[.pointer (some ⟨b, 0, none⟩), .int .i64 v] w fun q_ w' => q_ = .returned (.tuple #[]) ∧ Has w' b (enc (stopU m vn)) ∧ Keeps b w w' := by
  unfold stopU
  by_cases g : readyV m vn = true
  · rw [if_pos g]; exact stopUn_1 b m v vn hv h4 (fun W hW => ready_c b m h v vn hv h4 _ g W hW) w hh
  · rw [if_neg g]; exact stopUn_0 b m v vn hv h4 (fun W hW => ready_c b m h v vn hv h4 _ (by simpa using g) W hW) w hh
theorem load_c (b : Nat) (m : M) (h : okM m) (v : Int) (vn : Nat) (hv : v = vn) (h4 : vn < 4) (w : World) (hh : Has w b (enc m)) : Calls Tryd.prog 21 #[.pointer (some ⟨b, 0, none⟩), .int .i64 v] w fun q_ w' => q_ = .returned (.tuple #[]) ∧ Has w' b (enc (loadV m vn)) ∧ Keeps b w w' := by
  have h0 := h.reg (vn * 5 + 1) (by omega)
  unfold loadV maxV
  by_cases g : vn = 2
  · subst g hv
    rw [if_pos rfl, if_pos rfl]
    exact load_2 b m (m 11) h0.1 h0.2 rfl w hh
  · rw [if_neg g, if_neg g]
    exact load_n b m v vn hv h4 (by omega) (m (vn * 5 + 1)) h0.1 h0.2 rfl w hh
theorem maxlen_c (v : Int) (vn : Nat) (hv : v = vn) (w : World) : Calls Tryd.prog 28 #[.int .i64 v] w fun q_ w' => q_ = .returned (.int .i64 (maxV vn)) ∧ w' = w := by
  unfold maxV
  by_cases g : vn = 2
  · subst g hv; rw [if_pos rfl]; exact maxlen_2 w
  · rw [if_neg g]; exact maxlen_n v (by omega) w
theorem trig_c (b : Nat) (m : M) (h : okM m) (v : Int) (vn : Nat) (hv : v = vn) (h4 : vn < 4) (w : World) (hh : Has w b (enc m)) : Calls Tryd.prog 23 #[.pointer (some ⟨b, 0, none⟩), .int .i64 v] w fun q_ w' => q_ = .returned (.tuple #[]) ∧ Has w' b (enc (trigV m vn)) ∧ Keeps b w w' := by
  have h0 := h.reg (vn * 5 + 2) (by omega)
  have k := ok_trig4 h vn h4
  rw [trig_eq]
  by_cases g : vn = 0
  · subst g hv
    rw [if_pos rfl]
    have hbg := fun W hW => begin_c b _ k W hW
    by_cases g2 : m 52 = 0
    · exact trig_11 b m (m 2) _ _ (m 52) (maxV 0) rfl h0.1 h0.2 rfl rfl rfl g2 _ (fun W hW => ready_c b m h 0 0 rfl h4 _ rfl W hW) (fun W => maxlen_c 0 0 rfl W) _ (fun W hW => hbg W (by unfold trig4; rw [if_pos g2]; exact hW)) w hh
    · exact trig_10 b m (m 2) _ _ (m 52) (maxV 0) rfl h0.1 h0.2 rfl rfl rfl g2 _ (fun W hW => ready_c b m h 0 0 rfl h4 _ rfl W hW) _ (fun W hW => hbg W (by unfold trig4; rw [if_neg g2]; exact hW)) w hh
  · rw [if_neg g]
    unfold trig4
    by_cases g2 : m (51 + vn * 4 + 1) = 0
    · rw [if_pos g2]
      exact trig_01 b m v vn hv h4 (by omega) _ rfl (m (vn * 5 + 2)) _ _ _ (maxV vn) rfl h0.1 h0.2 rfl rfl rfl g2 _ (fun W hW => ready_c b m h v vn hv h4 _ rfl W hW) (fun W => maxlen_c v vn hv W) w hh
    · rw [if_neg g2]
      exact trig_00 b m v vn hv h4 (by omega) _ rfl (m (vn * 5 + 2)) _ _ _ (maxV vn) rfl h0.1 h0.2 rfl rfl rfl g2 _ (fun W hW => ready_c b m h v vn hv h4 _ rfl W hW) w hh
theorem shorten_c (b : Nat) (m : M) (h : okM m)  (w : World) (hh : Has w b (enc m)) : Calls Tryd.prog 24 #[.pointer (some ⟨b, 0, none⟩)] w fun q_ w' => q_ = .returned (.tuple #[]) ∧ Has w' b (enc (shN m 4)) ∧ Keeps b w w' := by
  exact short_c b m (fun t ht => by
    have k := ok_shN h t (by omega)
    have h1 := k.reg (t * 5 + 4) (by omega)
    have h2 := k.len t ht
    omega) w hh
theorem levels_c (b : Nat) (m : M) (h : okM m)  (w : World) (hh : Has w b (enc m)) : Calls Tryd.prog 26 #[.pointer (some ⟨b, 0, none⟩)] w fun q_ w' => q_ = .returned (.tuple #[]) ∧ Has w' b (enc (levN m 4)) ∧ Keeps b w w' := by
  exact lev_c b m (fun t ht _ W hW => by
    have k := ok_levN h t (by omega)
    have h1 := k.reg (t * 5 + 2) (by omega)
    have h2 := k.lev t ht
    have h3 := k.wt t ht
    exact chg_c b _ t _ ht h1.1 h1.2 h2.1 h2.2 h3.1 (by omega) W hW) w hh
end Go.Proofs.YtonmnpadmphbdaaDoor
