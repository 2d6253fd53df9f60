/-
  Plain data: what a call of a law does with a unit's numbers; bytes that came in; no program, no condition.
-/
import Derived.Test.YtpfbodmadmneiaaIt
import Derived.Test.YtpfbodmadmneiaaRu
namespace Go.Proofs.Ytpfbodmadmneiaa
open Go.ChangeShapes Go.WideShapes Go.ChangeAt Go.RowKit
set_option linter.unusedVariables false
set_option linter.unusedSimpArgs false
def plcA (a : Int) (t : Nat) : Int := (a + t) % 65536
def wrsM (a : Int) (F : M) : Nat → M → M
  | 0, m => m
  | t + 1, m => writeM (wrsM a F t m) (plcA a t) (F t)
theorem wrs_zero (a : Int) (F m : M) : wrsM a F 0 m = m := rfl
theorem wrs_succ (a : Int) (F m : M) (t : Nat) : wrsM a F (t + 1) m = writeM (wrsM a F t m) (plcA a t) (F t) := rfl
theorem wrs_ok {m : M} (h : Ok m) (a : Int) (F : M) (hF : okB F) : ∀ t, Ok (wrsM a F t m)
  | 0 => h
  | t + 1 => ok_write (wrs_ok h a F hF t) _ _ (hF t)
def tickN (n : Int) : Nat := if n ≤ 0 then 0 else if n ≤ 3000 then n.toNat else 3000
def doM (k n a x : Int) (L : Nat) (F : M) (m : M) : M := if k = 1 then itM (tickN n) m else if k = 2 then writeM m a x else if k = 3 then sprM m n x else if k = 4 then wrsM a F L m else m
theorem ok_do {m : M} (h : Ok m) (k n a x : Int) (L : Nat) (F : M) (hx : 0 ≤ x ∧ x < 256) (hF : okB F) : Ok (doM k n a x L F m) := by
  unfold doM
  split
  · exact it_ok h _
  · split
    · exact ok_write h _ _ hx
    · split
      · exact ok_spr h _ _ hx
      · split
        · exact wrs_ok h a F hF _
        · exact h
/-- A slice of bytes that lies below the block n. -/
def BsB (n_ : Nat) (w : World) (s : Value) (n : Nat) (F : M) : Prop := ∃ (a : Option Addr) (c : Nat), s = .slice a n c ∧ n ≤ 9223372036854775807 ∧ okB F ∧ (0 < n → ∃ b o, a = some ⟨b, o, none⟩ ∧ b < n_ ∧ ∀ j, j < n → w.cell? ⟨b, o + j, none⟩ = some (.int .u8 (F j)))
structure Apart (b r v s : Nat) : Prop where
  r : b ≠ r
  v : b ≠ v
  s : b ≠ s
attribute [irreducible] wrsM
end Go.Proofs.Ytpfbodmadmneiaa
