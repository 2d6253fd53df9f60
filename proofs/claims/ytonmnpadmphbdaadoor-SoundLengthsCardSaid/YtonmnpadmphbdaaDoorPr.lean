/-
  What is read of a board behind a write, and of one that is switched off: plain data.
-/
import Derived.Test.YtonmnpadmphbdaaDoorPlay
import Derived.Test.YtonmnpadmphbdaaDoorBits
import Derived.Deep.Cut
namespace Go.Proofs.YtonmnpadmphbdaaDoor
open Go.ChangeShapes Go.WideShapes Go.ChangeAt Go.RowKit
set_option linter.unusedVariables false
set_option linter.unusedSimpArgs false
set_option maxRecDepth 100000
theorem stop_reg (m : M) (o : Nat) (h : o < 48) : stopV m o = m o := by unfold stopV; split; rfl; exact upd_ne _ _ _ _ (by omega)
theorem begin_reg (m : M) (o : Nat) (h : o < 48) : beginV m o = m o := by
  have k : (upd (upd (upd m 67 (m 4 % 8 * 256 + m 3)) 68 (timeV m)) 69 (if perV m = 0 ∧ shV m = 0 then 0 else 1)) o = m o := by
    rw [upd_ne _ _ _ _ (by omega), upd_ne _ _ _ _ (by omega), upd_ne _ _ _ _ (by omega)]
  unfold beginV
  (try dsimp only)
  split
  · exact k
  · exact (stop_reg _ o h).trans k
theorem trig4_reg (m : M) (v o : Nat) (h : o < 48) : trig4 m v o = m o := by
  unfold trig4
  rw [upd_ne _ _ _ _ (by omega), upd_ne _ _ _ _ (by omega)]
  split
  · rw [upd_ne _ _ _ _ (by omega), upd_ne _ _ _ _ (by omega)]
  · rw [upd_ne _ _ _ _ (by omega)]
theorem trig_reg (m : M) (v o : Nat) (h : o < 48) : trigV m v o = m o := by
  rw [trig_eq]
  split
  · exact (begin_reg _ o h).trans (trig4_reg m v o h)
  · exact trig4_reg m v o h
theorem stopU_reg (m : M) (v o : Nat) (h : o < 48) : stopU m v o = m o := by unfold stopU; split; rfl; exact upd_ne _ _ _ _ (by omega)
theorem load_reg (m : M) (v o : Nat) (h : o < 48) : loadV m v o = m o := by unfold loadV; exact upd_ne _ _ _ _ (by omega)
theorem follow_reg (m : M) (v j o : Nat) (h : o < 48) : followV m v j o = m o := by
  unfold followV
  split
  · split
    · exact stopU_reg m v o h
    · rfl
  · split
    · exact load_reg m v o h
    · split
      · exact stopU_reg m v o h
      · split
        · split
          · exact trig_reg m v o h
          · rfl
        · rfl
theorem put_reg (m : M) (n : Nat) (x : Int) (h : n < 48) : putV m n x n = x := by
  unfold putV
  split
  · rw [follow_reg _ _ _ n h, upd_same]
  · exact upd_same _ _ _
theorem off_48 (m : M) : offV m 48 = 0 := rfl
theorem on_48 (m : M) : onV m 48 = 1 := by unfold onV; exact upd_same _ _ _
theorem write_on (m : M) (n : Nat) (x : Int) (h48 : m 48 = 1) (h : n < 48) (h22 : n ≠ 22) : writeV m n x n = x := by
  unfold writeV
  rw [if_neg (by omega), if_neg (by intro k; rcases k with k | k | k; omega; omega; exact k.1 h48)]
  exact put_reg m n x h
theorem read_on (m : M) (n : Nat) (x : Int) (h48 : m 48 = 1) (h : n < 48) (h22 : n ≠ 22) : readV (writeV m n x) n = bits .or .u8 x (mask n) := by
  unfold readV
  rw [if_neg (by omega), if_neg (by omega)]
  show bits .or .u8 (writeV m n x n) (mask n) = _
  rw [write_on m n x h48 h h22]
theorem or255 (a : Int) (h1 : 0 ≤ a) (h2 : a < 256) : bits .or .u8 a 255 = 255 := byte_all (P := fun a => bits .or .u8 a 255 = 255) (by decide +kernel) a h1 h2
theorem or0 (a : Int) (h1 : 0 ≤ a) (h2 : a < 256) : bits .or .u8 a 0 = a := byte_all (P := fun a => bits .or .u8 a 0 = a) (by decide +kernel) a h1 h2
theorem mask_mid (n : Nat) (h : 23 ≤ n) (h2 : n < 32) : mask n = 255 := by
  have : ∀ i : Fin 32, 23 ≤ i.val → mask i.val = 255 := by decide
  exact this ⟨n, h2⟩ h
theorem mask_top (n : Nat) (h : 32 ≤ n) (h2 : n < 48) : mask n = 0 := by
  have : ∀ i : Fin 48, 32 ≤ i.val → mask i.val = 0 := by decide
  exact this ⟨n, h2⟩ h
theorem status_off (m : M) : statusV (offV m) = 0 := by
  show stN (offV m) 4 = 0
  simp [stN, offV]
theorem status_of (m : M) (h : m 48 = 1) : bits .and .u8 (bits .or .u8 (statusV m) 112) 112 = 112 ∧ bits .or .u8 (statusV m) 112 / 128 = 1 := by
  have e : ∀ z0 z1 z2 z3 : Bool, ∀ s : Int, s = (if z3 = true then bits .or .u8 (if z2 = true then bits .or .u8 (if z1 = true then bits .or .u8 (if z0 = true then bits .or .u8 128 1 else 128) 2 else (if z0 = true then bits .or .u8 128 1 else 128)) 4 else (if z1 = true then bits .or .u8 (if z0 = true then bits .or .u8 128 1 else 128) 2 else (if z0 = true then bits .or .u8 128 1 else 128))) 8 else (if z2 = true then bits .or .u8 (if z1 = true then bits .or .u8 (if z0 = true then bits .or .u8 128 1 else 128) 2 else (if z0 = true then bits .or .u8 128 1 else 128)) 4 else (if z1 = true then bits .or .u8 (if z0 = true then bits .or .u8 128 1 else 128) 2 else (if z0 = true then bits .or .u8 128 1 else 128)))) →
      bits .and .u8 (bits .or .u8 s 112) 112 = 112 ∧ bits .or .u8 s 112 / 128 = 1 := by
    intro z0 z1 z2 z3 s hs
    subst hs
    cases z0 <;> cases z1 <;> cases z2 <;> cases z3 <;> decide +kernel
  refine e (decide (m 51 = 1)) (decide (m 55 = 1)) (decide (m 59 = 1)) (decide (m 63 = 1)) (statusV m) ?_
  show stN m 4 = _
  simp only [stN, h, if_true, decide_eq_true_eq, Nat.reduceMul, Nat.reduceAdd, Int.reducePow, Int.pow_zero]
  try rfl
theorem read22 (m : M) : readV m 22 = bits .or .u8 (statusV m) 112 := rfl
theorem read_off22 (m : M) : readV (offV m) 22 = 112 := by rw [read22, status_off]; decide +kernel
theorem read_bad1 (m : M) : readV m (-1) = 255 := rfl
theorem read_bad2 (m : M) : readV m 48 = 255 := rfl
theorem zero_is (i : Nat) (m : M) (h : i < 22) : readV (offV m) i = readV zeroM i := by
  unfold readV
  rw [if_neg (by omega), if_neg (by omega), if_neg (by omega), if_neg (by omega)]
  show bits .or .u8 (offV m i) _ = bits .or .u8 (zeroM i) _
  have : offV m i = 0 := if_pos h
  rw [this]; rfl
theorem tick_still (m : M) : tickV (offV m) = offV m := if_neg (by rw [off_48]; decide)
theorem write_still (m : M) (n x : Int) (h22 : n ≠ 22) (h : ¬ (32 ≤ n ∧ n < 48)) : writeV (offV m) n x = offV m := by
  unfold writeV
  rw [if_neg h22, if_pos (by
    by_cases a : n < 0
    · exact Or.inl a
    · by_cases b : 48 ≤ n
      · exact Or.inr (Or.inl b)
      · exact Or.inr (Or.inr ⟨by rw [off_48]; decide, by omega⟩))]
theorem write_wave (m : M) (n : Nat) (x : Int) (h0 : 0 ≤ x) (h1 : x < 256) (h : 32 ≤ n) (h2 : n < 48) : readV (writeV (offV m) n x) n = x := by
  unfold readV
  rw [if_neg (by omega), if_neg (by omega)]
  show bits .or .u8 (writeV (offV m) n x n) (mask n) = x
  have e : writeV (offV m) n x n = x := by
    unfold writeV
    rw [if_neg (by omega), if_neg (by intro k; rcases k with k | k | k <;> omega)]
    exact put_reg _ n x h2
  rw [e, mask_top n h h2, or0 x h0 h1]
end Go.Proofs.YtonmnpadmphbdaaDoor
