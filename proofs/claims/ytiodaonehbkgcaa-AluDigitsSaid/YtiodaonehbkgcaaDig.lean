/-
  Numbers of two digits, added and taken away with Daa behind: plain numbers, checked case by case; no condition.
-/
import Derived.Test.YtiodaonehbkgcaaBase
namespace Go.Proofs.Ytiodaonehbkgcaa
open Go.ChangeShapes Go.WideShapes Go.ChangeAt Go.RowKit
def dig (x : Int) : Int := x / 10 * 16 + x % 10
def sumOk (x y : Int) : Bool :=
  let r := daaR (addR (dig x) (dig y) false) (addF (dig x) (dig y) false)
  let g := daaF (addR (dig x) (dig y) false) (addF (dig x) (dig y) false)
  r == dig ((x + y) % 100) && cf g == decide (99 < x + y) && zf g == ((x + y) % 100 == 0) && hf g == false
def lessOk (x y : Int) : Bool :=
  let r := daaR (subR (dig x) (dig y) false) (subF (dig x) (dig y) false)
  let g := daaF (subR (dig x) (dig y) false) (subF (dig x) (dig y) false)
  r == dig ((x - y + 100) % 100) && cf g == decide (x < y) && zf g == ((x - y + 100) % 100 == 0) && hf g == false
theorem sum_all : ∀ x y : Fin 100, sumOk x.val y.val = true := by decide +kernel
theorem less_all : ∀ x y : Fin 100, lessOk x.val y.val = true := by decide +kernel
theorem sum_ok (x y : Int) (h1 : 0 ≤ x) (h2 : x < 100) (h3 : 0 ≤ y) (h4 : y < 100) : sumOk x y = true := by
  have := sum_all ⟨x.toNat, by omega⟩ ⟨y.toNat, by omega⟩
  rwa [show ((x.toNat : Nat) : Int) = x by omega, show ((y.toNat : Nat) : Int) = y by omega] at this
theorem less_ok (x y : Int) (h1 : 0 ≤ x) (h2 : x < 100) (h3 : 0 ≤ y) (h4 : y < 100) : lessOk x y = true := by
  have := less_all ⟨x.toNat, by omega⟩ ⟨y.toNat, by omega⟩
  rwa [show ((x.toNat : Nat) : Int) = x by omega, show ((y.toNat : Nat) : Int) = y by omega] at this
end Go.Proofs.Ytiodaonehbkgcaa
