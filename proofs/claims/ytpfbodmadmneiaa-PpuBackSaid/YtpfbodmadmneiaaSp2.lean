/-
  Plain data: what is seen and written where, by the mode; no program, no condition.
-/
import Derived.Test.YtpfbodmadmneiaaIt
namespace Go.Proofs.Ytpfbodmadmneiaa
open Go.ChangeShapes Go.WideShapes Go.ChangeAt Go.RowKit
set_option linter.unusedVariables false
set_option linter.unusedSimpArgs false
theorem isV_at (k : Nat) (h : k < 8192) : isV (32768 + (k : Int)) = true := by unfold isV; simp; omega
theorem isO_at (k : Nat) (h : k < 160) : isO (65024 + (k : Int)) = true := by unfold isO; simp; omega
theorem isO_v (k : Nat) (h : k < 8192) : isO (32768 + (k : Int)) = false := by unfold isO; simp; omega
theorem isV_o (k : Nat) : isV (65024 + (k : Int)) = false := by unfold isV; simp; omega
theorem isR_v (k : Nat) (h : k < 8192) : isR (32768 + (k : Int)) = false := by unfold isR; simp; omega
theorem isR_o (k : Nat) (h : k < 160) : isR (65024 + (k : Int)) = false := by unfold isR; simp; omega
theorem peek_v (m : M) (k : Nat) (h : k < 8192) : peekM m (32768 + (k : Int)) = m k := by
  unfold peekM
  rw [if_pos (isV_at k h)]
  congr 1
  omega
theorem peek_o (m : M) (k : Nat) (h : k < 160) : peekM m (65024 + (k : Int)) = m (8192 + k) := by
  unfold peekM
  rw [if_neg (by rw [isV_o]; decide), if_pos (isO_at k h)]
  congr 1
  omega
theorem put_v (m : M) (k : Nat) (x : Int) (h : k < 8192) : putM m (32768 + (k : Int)) x = upd m k x := by
  unfold putM
  rw [if_neg (by rw [isR_v k h]; decide), if_pos (isV_at k h)]
  congr 1
  omega
theorem put_o (m : M) (k : Nat) (x : Int) (h : k < 160) : putM m (65024 + (k : Int)) x = upd m (8192 + k) x := by
  unfold putM
  rw [if_neg (by rw [isR_o k h]; decide), if_neg (by rw [isV_o]; decide), if_pos (isO_at k h)]
  congr 1
  omega
theorem hid_v (v : Int) (k : Nat) (h : k < 8192) : hidV v (32768 + (k : Int)) = decide (v = 3) := by
  unfold hidV
  rw [isV_at k h, isO_v k h]
  by_cases a : v = 2
  · subst a; rfl
  · rw [if_neg a]; by_cases b : v = 3 <;> simp [b]
theorem hid_o (v : Int) (k : Nat) (h : k < 160) : hidV v (65024 + (k : Int)) = (decide (v = 2) || decide (v = 3)) := by
  unfold hidV
  rw [isO_at k h]
  by_cases a : v = 2
  · simp [a]
  · rw [if_neg a]; by_cases b : v = 3 <;> simp [a, b]
theorem modeoff (m : M) (h : m 8352 < 128) : modeM m = 0 := by unfold modeM modeV; rw [if_neg (by omega)]
theorem mode_low (m : M) (o : Nat) (x : Int) (h : o < 8352) : modeM (upd m o x) = modeM m := by
  unfold modeM
  rw [upd_ne _ _ _ _ (by omega), upd_ne _ _ _ _ (by omega), upd_ne _ _ _ _ (by omega)]
/-- The state of PpuShut behind its cycles. -/
def shM (va vo N : Nat) : M := itM N (sgM (upd (upd (upd zeroM va 1) (8192 + vo) 2) 8352 128))
theorem sh1 (va : Nat) (h : va < 8192) : writeM zeroM (32768 + (va : Int)) 1 = upd zeroM va 1 := by
  unfold writeM
  rw [modeoff zeroM (by decide), if_neg (by rw [hid_v _ _ h]; decide), put_v _ _ _ h]
theorem sh2 (va vo : Nat) (h : va < 8192) (k : vo < 160) : writeM (upd zeroM va 1) (65024 + (vo : Int)) 2 = upd (upd zeroM va 1) (8192 + vo) 2 := by
  unfold writeM
  rw [modeoff _ (by rw [upd_ne _ _ _ _ (by omega)]; decide), if_neg (by rw [hid_o _ _ k]; decide), put_o _ _ _ k]
theorem sh3 (va vo : Nat) (h : va < 8192) (k : vo < 160) : writeM (upd (upd zeroM va 1) (8192 + vo) 2) 65344 128 = sgM (upd (upd (upd zeroM va 1) (8192 + vo) 2) 8352 128) :=
  write_ctl _ _ (by rw [upd_ne _ _ _ _ (by omega), upd_ne _ _ _ _ (by omega)]; decide)
theorem sh_at (va vo N : Nat) (h : va < 8192) (k : vo < 160) : shM va vo N va = 1 ∧ shM va vo N (8192 + vo) = 2 := by
  unfold shM
  refine ⟨?_, ?_⟩
  · rw [it_lies _ N va (by omega) (by omega), sg_at _ _ (by omega), upd_ne _ _ _ _ (by omega), upd_ne _ _ _ _ (by omega), upd_same]
  · rw [it_lies _ N _ (by omega) (by omega), sg_at _ _ (by omega), upd_ne _ _ _ _ (by omega), upd_same]
theorem xor1 (x : Int) (h0 : 0 ≤ x) (h1 : x < 256) : 0 ≤ bits .xor .u8 x 1 ∧ bits .xor .u8 x 1 < 256 := byte_all (P := fun x => 0 ≤ bits .xor .u8 x 1 ∧ bits .xor .u8 x 1 < 256) (by decide +kernel) x h0 h1
theorem or_32768 (x : Int) (h0 : 0 ≤ x) (h1 : x < 8192) : bits .or .u16 32768 x = 32768 + x := by
  have h : ∀ (i : Fin 128) (j : Fin 64), bits .or .u16 32768 (64 * (i.val : Int) + j.val) = 32768 + (64 * (i.val : Int) + j.val) := by decide +kernel
  obtain ⟨n, rfl⟩ := Int.eq_ofNat_of_zero_le h0
  have := h ⟨n / 64, by omega⟩ ⟨n % 64, by omega⟩
  have e : (64 * ((n / 64 : Nat) : Int) + ((n % 64 : Nat) : Int)) = (n : Int) := by omega
  rw [e] at this
  exact this
/-- Reads and writes, where the mode is 3. -/
theorem at_3 (m : M) (va vo : Nat) (h : va < 8192) (k : vo < 160) (x : Int) (hm : modeM m = 3) : readM m (32768 + (va : Int)) = 255 ∧ readM m (65024 + (vo : Int)) = 255 ∧ writeM m (32768 + (va : Int)) x = m ∧ writeM m (65024 + (vo : Int)) x = m := by
  unfold readM writeM
  rw [hm, hid_v _ _ h, hid_o _ _ k]
  simp
theorem at_2 (m : M) (va vo : Nat) (h : va < 8192) (k : vo < 160) (x : Int) (hm : modeM m = 2) : readM m (32768 + (va : Int)) = m va ∧ readM m (65024 + (vo : Int)) = 255 ∧ writeM m (32768 + (va : Int)) x = upd m va x ∧ writeM m (65024 + (vo : Int)) x = m := by
  unfold readM writeM
  rw [hm, hid_v _ _ h, hid_o _ _ k, peek_v _ _ h, put_v _ _ _ h]
  simp
theorem at_x (m : M) (va vo : Nat) (h : va < 8192) (k : vo < 160) (x : Int) (v : Int) (hm : modeM m = v) (h2 : v ≠ 2) (h3 : v ≠ 3) : readM m (32768 + (va : Int)) = m va ∧ readM m (65024 + (vo : Int)) = m (8192 + vo) ∧ writeM m (32768 + (va : Int)) x = upd m va x ∧ writeM m (65024 + (vo : Int)) x = upd m (8192 + vo) x := by
  unfold readM writeM
  rw [hm, hid_v _ _ h, hid_o _ _ k, peek_v _ _ h, put_v _ _ _ h, peek_o _ _ k, put_o _ _ _ k]
  simp [h2, h3]
end Go.Proofs.Ytpfbodmadmneiaa
