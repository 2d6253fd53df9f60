/-
  Plain data: what a copier is, what a cycle and a write make of it, as numbers; no program, no condition.
-/
import Derived.Test.YtnfjgofmfaadnaaRows
import Derived.Laws.BitsAllLaws
namespace Go.Proofs.Ytnfjgofmfaadnaa
set_option linter.unusedVariables false
structure CV where
  p : Int
  l : Int
def CV.ok (c : CV) : Prop := (0 ≤ c.p ∧ c.p < 256) ∧ (-1000 ≤ c.l ∧ c.l ≤ 1000)
def zeroV : CV := ⟨0, 0⟩
def tickV (c : CV) : CV := if c.l ≤ 0 then c else ⟨c.p, c.l - 1⟩
def baseV (p : Int) : Int := if 224 ≤ p then (p - 32) * 256 else p * 256
def fromV (c : CV) : Int := if c.l ≤ 0 then 0 else (baseV c.p + (160 - c.l)) % 65536
def numV (c : CV) : Int := if c.l ≤ 0 then 0 else 160 - c.l
def busyV (c : CV) : Bool := decide (0 < c.l)
def letsV (c : CV) (a : Int) : Bool := decide (c.l ≤ 0 ∨ 65280 ≤ a)
def wrV (x : Int) : CV := ⟨x, 160⟩
theorem zero_ok : zeroV.ok := by unfold CV.ok zeroV; decide
theorem tick_ok {c : CV} (h : c.ok) : (tickV c).ok := by
  obtain ⟨⟨h0, h1⟩, ⟨h2, h3⟩⟩ := h
  unfold tickV
  repeat' split
  all_goals (unfold CV.ok; (try dsimp only); omega)
theorem wr_ok {x : Int} (h0 : 0 ≤ x) (h1 : x < 256) : (wrV x).ok := ⟨⟨h0, h1⟩, by show (-1000 : Int) ≤ 160 ∧ (160 : Int) ≤ 1000; decide⟩
theorem tick_idle {c : CV} (h : c.l ≤ 0) : tickV c = c ∧ fromV c = 0 ∧ numV c = 0 ∧ busyV c = false :=
  ⟨if_pos h, if_pos h, if_pos h, decide_eq_false (by omega)⟩
theorem tick_busy {c : CV} (h : ¬ c.l ≤ 0) : tickV c = ⟨c.p, c.l - 1⟩ ∧ fromV c = (baseV c.p + (160 - c.l)) % 65536 ∧ numV c = 160 - c.l ∧ busyV c = true :=
  ⟨if_neg h, if_neg h, if_neg h, decide_eq_true (by omega)⟩
/-- The copier of page x behind t cycles. -/
def atV (x : Int) (t : Nat) : CV := ⟨x, ((160 - t : Nat) : Int)⟩
theorem at_0 (x : Int) : atV x 0 = wrV x := rfl
theorem at_next (x : Int) (t : Nat) : tickV (atV x t) = atV x (t + 1) := by
  unfold tickV atV
  dsimp only
  split
  · congr 2; omega
  · congr 1; omega
theorem at_ok {x : Int} (h0 : 0 ≤ x) (h1 : x < 256) (t : Nat) : (atV x t).ok := ⟨⟨h0, h1⟩, by unfold atV; dsimp only; omega⟩
theorem base_bd {p : Int} (h0 : 0 ≤ p) (h1 : p < 256) : 0 ≤ baseV p ∧ baseV p < 57344 ∧ baseV p % 256 = 0 := by
  unfold baseV
  split <;> omega
end Go.Proofs.Ytnfjgofmfaadnaa
