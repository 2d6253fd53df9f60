/-
  The functions of the decoding table, as numbers.
-/
import Derived.Test.YtngdogldgcgnjaaGreatOp
namespace Go.Proofs.YtngdogldgcgnjaaGreat
open Go.ChangeShapes Go.WideShapes Go.ChangeAt Go.RowKit

structure OpV where
  k : Int
  x : Int
  y : Int
  s : Int
  n : Int
deriving DecidableEq

def relF (y : Int) : OpV := if y = 0 then ⟨1, 0, 0, 1, 0⟩ else if y = 1 then ⟨40, 0, 0, 3, 0⟩ else if y = 2 then ⟨2, 0, 0, 2, 0⟩ else if y = 3 then ⟨23, 4, 0, 2, 0⟩ else ⟨23, y - 4, 0, 2, 0⟩
def ofAF (y : Int) : OpV := if y = 4 then ⟨19, 0, 0, 1, 0⟩ else if y = 5 then ⟨20, 0, 0, 1, 0⟩ else if y = 6 then ⟨21, 0, 0, 1, 0⟩ else if y = 7 then ⟨22, 0, 0, 1, 0⟩ else ⟨18, y, 0, 1, 0⟩
def rohF (y : Int) : OpV := if y = 4 then ⟨35, 0, 0, 2, 0⟩ else if y = 5 then ⟨41, 0, 0, 2, 0⟩ else if y = 6 then ⟨34, 0, 0, 2, 0⟩ else if y = 7 then ⟨42, 0, 0, 2, 0⟩ else ⟨26, y, 0, 1, 0⟩
def stkF (p : Int) : Int := if p = 3 then 4 else p
def woF (p : Int) : OpV := if p = 0 then ⟨26, 4, 0, 1, 0⟩ else if p = 1 then ⟨27, 0, 0, 1, 0⟩ else if p = 2 then ⟨29, 0, 0, 1, 0⟩ else ⟨43, 0, 0, 1, 0⟩
def jofF (y : Int) : OpV := if y = 4 then ⟨37, 0, 0, 1, 0⟩ else if y = 5 then ⟨39, 0, 0, 3, 0⟩ else if y = 6 then ⟨36, 0, 0, 1, 0⟩ else if y = 7 then ⟨38, 0, 0, 3, 0⟩ else ⟨24, y, 0, 3, 0⟩
def josF (y : Int) : OpV := if y = 0 then ⟨24, 4, 0, 3, 0⟩ else if y = 6 then ⟨5, 0, 0, 1, 0⟩ else if y = 7 then ⟨6, 0, 0, 1, 0⟩ else ⟨4, 0, 0, 1, 0⟩
def ccF (y : Int) : OpV := if y < 4 then ⟨25, y, 0, 3, 0⟩ else ⟨4, 0, 0, 1, 0⟩
def callF (p : Int) : OpV := if p = 0 then ⟨25, 4, 0, 3, 0⟩ else ⟨4, 0, 0, 1, 0⟩
def prefF (x y z : Int) : OpV := if x = 1 then ⟨44, y, z, 2, 0⟩ else if x = 2 then ⟨45, y, z, 2, 0⟩ else if x = 3 then ⟨46, y, z, 2, 0⟩ else ⟨17, y, z, 2, 0⟩
def eitherF (q : Int) (a b : OpV) : OpV := if q = 0 then a else b
end Go.Proofs.YtngdogldgcgnjaaGreat
