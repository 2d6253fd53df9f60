/-
  Plain data: a view: a tile's number, a place of a map, the window, a line; no program, no condition.
-/
import Derived.Test.YtpfbodmadmneiaaPure
namespace Go.Proofs.Ytpfbodmadmneiaa
set_option linter.unusedVariables false
set_option linter.unusedSimpArgs false
theorem an0 (a : Int) (h1 : 0 ≤ a) (h2 : a < 256) : bits .and .u8 a 1 = bit a 0 := byte_all (P := fun a => bits .and .u8 a 1 = bit a 0) (by decide +kernel) a h1 h2
theorem an3 (a : Int) (h1 : 0 ≤ a) (h2 : a < 256) : bits .and .u8 a 8 = 8 * bit a 3 := byte_all (P := fun a => bits .and .u8 a 8 = 8 * bit a 3) (by decide +kernel) a h1 h2
def numV (c b : Int) : Int := if bit c 4 = 1 then b else if 127 < b then b else 256 + b
theorem numV_bd (c b : Int) (h0 : 0 ≤ b) (h1 : b < 256) : 0 ≤ numV c b ∧ numV c b < 384 := by
  unfold numV
  split
  · omega
  · split <;> omega
def mapV (c : Int) (n : Nat) : Int := if bit c n = 1 then 7168 else 6144
def spotV (F : M) (c s px py : Int) : Int := dotV F (numV c (F (s + py / 8 * 32 + px / 8).toNat)) px py
def backV (F : M) (c sx sy x y : Int) : Int := spotV F c (mapV c 3) ((x + sx) % 256) ((y + sy) % 256)
def winV (F : M) (c x y : Int) : Int := spotV F c (mapV c 6) (x % 256) (y % 256)
theorem backV_bd (F : M) (c sx sy x y : Int) : 0 ≤ backV F c sx sy x y ∧ backV F c sx sy x y < 4 := dotV_bd _ _ _ _
theorem winV_bd (F : M) (c x y : Int) : 0 ≤ winV F c x y ∧ winV F c x y < 4 := dotV_bd _ _ _ _
def reachV (c wx wy line : Int) : Bool := decide (bit c 5 = 1) && (decide (wy ≤ line) && decide (wx ≤ 166))
def lineV (F : M) (c sx sy wx wy line own : Int) : M := fun i => if reachV c wx wy line = true ∧ 0 ≤ (i : Int) + 7 - wx then winV F c ((i : Int) + 7 - wx) own else backV F c sx sy i line
/-- The document's line and whether the window is seen in it. -/
def seenV (c wx wy line : Int) : Bool := decide (bit c 0 = 1) && reachV c wx wy line
def lineE (F : M) (c sx sy wx wy line own : Int) : M := if bit c 0 = 1 then firstN (lineV F c sx sy wx wy line own) 160 else zeroM
end Go.Proofs.Ytpfbodmadmneiaa
