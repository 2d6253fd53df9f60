/-
  A cycle of the document's unit: for every unit as it can be; no other condition.
-/
import Derived.Test.YtpfbodmadmneiaaRt
import Derived.Deep.Cut
namespace Go.Proofs.Ytpfbodmadmneiaa
open Go.ChangeShapes Go.WideShapes Go.ChangeAt Go.RowKit
set_option linter.unusedVariables false
set_option linter.unusedSimpArgs false
set_option maxRecDepth 100000
theorem dot_at (m : M) (o : Nat) (h : o ≠ 8363) : dotM m o = m o := upd_ne _ _ _ _ h
theorem next_d144 (m : M) (h : m 8356 + 1 = 144) : nextM (dotM m) = upd (upd (upd (upd m 8363 (m 8363 + 1)) 8363 0) 8356 (m 8356 + 1)) 8365 ((m 8365 + 1) % 65536) := by
  unfold nextM lnM
  rw [dot_at m 8356 (by decide), dot_at m 8365 (by decide), if_pos h]
  rfl
theorem next_d154 (m : M) (h : m 8356 + 1 = 154) : nextM (dotM m) = upd (upd (upd (upd (upd m 8363 (m 8363 + 1)) 8363 0) 8356 (m 8356 + 1)) 8356 0) 8364 0 := by
  unfold nextM lnM
  rw [dot_at m 8356 (by decide), if_neg (by omega), if_pos h]
  rfl
theorem next_dx (m : M) (h : ¬ m 8356 + 1 = 144) (h2 : ¬ m 8356 + 1 = 154) : nextM (dotM m) = upd (upd (upd m 8363 (m 8363 + 1)) 8363 0) 8356 (m 8356 + 1) := by
  unfold nextM lnM
  rw [dot_at m 8356 (by decide), if_neg h, if_neg h2]
  rfl
theorem row_dot (m : M) : rowM (dotM m) = rowM m := by
  unfold rowM
  have e1 : vid (dotM m) = vid m := vid_far m 8363 _ (by omega)
  have e2 : oam (dotM m) = oam m := oam_far m 8363 _ (by omega)
  rw [e1, e2, dot_at m 8352 (by decide), dot_at m 8358 (by decide), dot_at m 8359 (by decide), dot_at m 8360 (by decide), dot_at m 8356 (by decide), dot_at m 8355 (by decide), dot_at m 8354 (by decide), dot_at m 8362 (by decide), dot_at m 8361 (by decide), dot_at m 8364 (by decide)]
theorem seen_dot (m : M) : seenM (dotM m) = seenM m := by
  unfold seenM
  rw [dot_at m 8352 (by decide), dot_at m 8362 (by decide), dot_at m 8361 (by decide), dot_at m 8356 (by decide)]
theorem nextR_dot (m : M) : nextR (dotM m) = if m 8356 + 1 = 144 then 1 else 0 := by unfold nextR; rw [dot_at m 8356 (by decide)]
/-- A cycle. -/
theorem rtick_c (r v s : Nat) (m : M) (ok : Ok m) (w : World) (h : RU w r v s m) : Calls Try.prog 29 #[.pointer (some ⟨r, 0, none⟩)] w fun q_ w' => q_ = .returned (.int .u8 (tickR m)) ∧ RU w' r v s (tickM m) ∧ Keep3 r v s w w' := by
  have B := ok.byte
  have hd := ok.dot
  have hl := ok.line
  have ho := ok.own
  by_cases a : 128 ≤ m 8352
  · have hz : decide (128 ≤ m 8352) = true := by simpa using a
    have ht : tickM m = sgM (turnM m) := by unfold tickM; rw [if_pos a]
    have hr : tickR m = turnR m + askM (turnM m) := by unfold tickR; rw [if_pos a]
    rw [ht, hr]
    have HS : ∀ W, RU W r v s (turnM m) → _ := fun W hW => rstat_c r v s (turnM m) (ok_turn ok) W hW
    have D256 : m 8363 + 1 < 256 := by omega
    by_cases g : m 8363 + 1 = 114
    · have hm : midM m = dotM m := by unfold midM; rw [if_neg (by omega)]
      have tM : turnM m = nextM (dotM m) := by unfold turnM; rw [if_pos g, hm]
      have tR : turnR m = nextR (dotM m) := by unfold turnR; rw [if_pos g, hm]
      have wr := wrap_sum _ _ (nextR_bd (dotM m)) (askM_bd (turnM m))
      rw [tR]
      have g3 : (m 8363 + 1 == 63) = false := by simp; omega
      have g1 : (m 8363 + 1 == 114) = true := by simpa using g
      rw [nextR_dot] at wr ⊢
      have l0 := (B 8356 (by decide) (by decide)).1
      by_cases q1 : m 8356 + 1 = 144
      · rw [tM, next_d144 m q1] at HS
        rw [tM, next_d144 m q1] at wr ⊢
        rw [if_pos q1] at wr ⊢
        exact rtick_D144 r v s m _ rfl (B 8352 (by decide) (by decide)).1 (B 8352 (by decide) (by decide)).2 _ rfl (B 8363 (by decide) (by decide)).1 (B 8363 (by decide) (by decide)).2 _ rfl (B 8356 (by decide) (by decide)).1 (B 8356 (by decide) (by decide)).2 _ rfl ok.fr.1 ok.fr.2 _ rfl (B 8364 (by decide) (by decide)).1 (B 8364 (by decide) (by decide)).2 hz _ rfl D256 g3 g1 _ rfl (by omega) (by simpa using q1) (by simp; omega) _ _ _ wr HS w h
      · rw [if_neg q1] at wr ⊢
        by_cases q2 : m 8356 + 1 = 154
        · rw [tM, next_d154 m q2] at HS
          rw [tM, next_d154 m q2] at wr ⊢
          exact rtick_D154 r v s m _ rfl (B 8352 (by decide) (by decide)).1 (B 8352 (by decide) (by decide)).2 _ rfl (B 8363 (by decide) (by decide)).1 (B 8363 (by decide) (by decide)).2 _ rfl (B 8356 (by decide) (by decide)).1 (B 8356 (by decide) (by decide)).2 _ rfl ok.fr.1 ok.fr.2 _ rfl (B 8364 (by decide) (by decide)).1 (B 8364 (by decide) (by decide)).2 hz _ rfl D256 g3 g1 _ rfl (by omega) (by simpa using q1) (by simpa using q2) _ _ _ wr HS w h
        · rw [tM, next_dx m q1 q2] at HS
          rw [tM, next_dx m q1 q2] at wr ⊢
          exact rtick_Dx r v s m _ rfl (B 8352 (by decide) (by decide)).1 (B 8352 (by decide) (by decide)).2 _ rfl (B 8363 (by decide) (by decide)).1 (B 8363 (by decide) (by decide)).2 _ rfl (B 8356 (by decide) (by decide)).1 (B 8356 (by decide) (by decide)).2 _ rfl ok.fr.1 ok.fr.2 _ rfl (B 8364 (by decide) (by decide)).1 (B 8364 (by decide) (by decide)).2 hz _ rfl D256 g3 g1 _ rfl (by omega) (by simpa using q1) (by simpa using q2) _ _ _ wr HS w h
    · have tM : turnM m = midM m := by unfold turnM; rw [if_neg g]
      have tR : turnR m = 0 := by unfold turnR; rw [if_neg g]
      rw [tR, Int.zero_add]
      have wr : IntKind.u8.wrap (askM (turnM m)) = askM (turnM m) := by have := wrap_sum 0 _ (by decide) (askM_bd (turnM m)); simpa using this
      have g' : (m 8363 + 1 == 114) = false := by simpa using g
      rw [tM] at HS wr ⊢
      by_cases g3 : m 8363 + 1 = 63
      · have g3' : (m 8363 + 1 == 63) = true := by simpa using g3
        by_cases gl : m 8356 < 144
        · have hm : midM m = renM (dotM m) := by unfold midM; rw [if_pos ⟨g3, gl⟩]
          obtain ⟨n, hn⟩ := Int.eq_ofNat_of_zero_le (B 8356 (by decide) (by decide)).1
          have hQ : firstN (outV (m 8352) (m 8358) (m 8359) (m 8360) (vid m) (oam m) n (lineE (vid m) (m 8352) (m 8355) (m 8354) (m 8362) (m 8361) n (m 8364))) 160 = rowM m := by unfold rowM; rw [hn]
          have hk : 8367 + 160 * n = 8348 + (19 + n * 160) := by omega
          have hdr : drawM (dotM m) = row (upd m 8363 (m 8363 + 1)) (8348 + (19 + n * 160)) 160 (rowM m) := by
            unfold drawM
            rw [row_dot, dot_at m 8356 (by decide), hn, Int.toNat_natCast, hk]
            rfl
          rw [hm] at HS wr ⊢
          unfold renM at HS wr ⊢
          rw [seen_dot, hdr, dot_at m 8364 (by decide)] at HS wr ⊢
          cases hs : seenM m with
          | true =>
            rw [hs, if_pos rfl] at HS wr
            rw [if_pos rfl]
            exact rtick_At r v s m _ rfl (B 8352 (by decide) (by decide)).1 (B 8352 (by decide) (by decide)).2 _ rfl (B 8354 (by decide) (by decide)).1 (B 8354 (by decide) (by decide)).2 _ rfl (B 8355 (by decide) (by decide)).1 (B 8355 (by decide) (by decide)).2 _ rfl (B 8358 (by decide) (by decide)).1 (B 8358 (by decide) (by decide)).2 _ rfl (B 8359 (by decide) (by decide)).1 (B 8359 (by decide) (by decide)).2 _ rfl (B 8360 (by decide) (by decide)).1 (B 8360 (by decide) (by decide)).2 _ rfl (B 8361 (by decide) (by decide)).1 (B 8361 (by decide) (by decide)).2 _ rfl (B 8362 (by decide) (by decide)).1 (B 8362 (by decide) (by decide)).2 _ rfl (B 8364 (by decide) (by decide)).1 (B 8364 (by decide) (by decide)).2 _ rfl (B 8363 (by decide) (by decide)).1 (B 8363 (by decide) (by decide)).2 hz _ rfl D256 g3' g' B n hn (by omega) (by rw [← hs]; unfold seenM; rw [hn]) _ rfl _ hQ (lineE_ok _ _ _ _ _ _ _ _) _ _ wr HS w h
          | false =>
            rw [hs, if_neg (by decide)] at HS wr
            rw [if_neg (by decide)]
            exact rtick_Af r v s m _ rfl (B 8352 (by decide) (by decide)).1 (B 8352 (by decide) (by decide)).2 _ rfl (B 8354 (by decide) (by decide)).1 (B 8354 (by decide) (by decide)).2 _ rfl (B 8355 (by decide) (by decide)).1 (B 8355 (by decide) (by decide)).2 _ rfl (B 8358 (by decide) (by decide)).1 (B 8358 (by decide) (by decide)).2 _ rfl (B 8359 (by decide) (by decide)).1 (B 8359 (by decide) (by decide)).2 _ rfl (B 8360 (by decide) (by decide)).1 (B 8360 (by decide) (by decide)).2 _ rfl (B 8361 (by decide) (by decide)).1 (B 8361 (by decide) (by decide)).2 _ rfl (B 8362 (by decide) (by decide)).1 (B 8362 (by decide) (by decide)).2 _ rfl (B 8364 (by decide) (by decide)).1 (B 8364 (by decide) (by decide)).2 _ rfl (B 8363 (by decide) (by decide)).1 (B 8363 (by decide) (by decide)).2 hz _ rfl D256 g3' g' B n hn (by omega) (by rw [← hs]; unfold seenM; rw [hn]) _ rfl _ hQ (lineE_ok _ _ _ _ _ _ _ _) _ _ wr HS w h
        · have hm : midM m = dotM m := by unfold midM; rw [if_neg (by omega)]
          rw [hm] at HS wr ⊢
          exact rtick_B r v s m _ rfl (B 8352 (by decide) (by decide)).1 (B 8352 (by decide) (by decide)).2 _ rfl (B 8363 (by decide) (by decide)).1 (B 8363 (by decide) (by decide)).2 _ rfl (B 8356 (by decide) (by decide)).1 (B 8356 (by decide) (by decide)).2 hz _ rfl D256 g3' g' gl _ _ wr HS w h
      · have hm : midM m = dotM m := by unfold midM; rw [if_neg (by omega)]
        rw [hm] at HS wr ⊢
        exact rtick_C r v s m _ rfl (B 8352 (by decide) (by decide)).1 (B 8352 (by decide) (by decide)).2 _ rfl (B 8363 (by decide) (by decide)).1 (B 8363 (by decide) (by decide)).2 _ rfl (B 8356 (by decide) (by decide)).1 (B 8356 (by decide) (by decide)).2 hz _ rfl D256 (by simpa using g3) g' _ _ wr HS w h
  · have hz : decide (128 ≤ m 8352) = false := by simpa using a
    have ht : tickM m = m := by unfold tickM; rw [if_neg a]
    have hr : tickR m = 0 := by unfold tickR; rw [if_neg a]
    rw [ht, hr]
    exact rtick_off r v s m _ rfl (B 8352 (by decide) (by decide)).1 (B 8352 (by decide) (by decide)).2 hz w h
end Go.Proofs.Ytpfbodmadmneiaa
