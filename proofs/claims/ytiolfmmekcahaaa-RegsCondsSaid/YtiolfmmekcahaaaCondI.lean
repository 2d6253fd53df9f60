/-
  What Is returns for a set that has flags alone, for every byte of flags; no condition but that each number is the one named.
-/
import Derived.Test.YtiolfmmekcahaaaBase
import Derived.Test.YtiolfmmekcahaaaRegs3
namespace Go.Proofs.Ytiolfmmekcahaaa.regsConds
open Go.ChangeShapes Go.WideShapes Go.ChangeAt Go.RowKit

theorem i0 (f : Int) (z : Bool) (h1 : 0 ≤ f) (h2 : f < 256) (hz : (f / 128 == 1) = z) (w : World) :
    Calls Try.prog 14 #[.agg #[.int .u8 0, .int .u8 f, .int .u8 0, .int .u8 0, .int .u8 0, .int .u8 0, .int .u8 0, .int .u8 0, .int .u16 0, .int .u16 0], .int .i64 0] w fun e w' => e = .returned (.bool (!z)) ∧ Below w.heap.size w w' := by
  subst hz; exact is_c ⟨0, f, 0, 0, 0, 0, 0, 0, 0, 0⟩ 0 h1 h2 w
theorem i1 (f : Int) (z : Bool) (h1 : 0 ≤ f) (h2 : f < 256) (hz : (f / 128 == 1) = z) (w : World) :
    Calls Try.prog 14 #[.agg #[.int .u8 0, .int .u8 f, .int .u8 0, .int .u8 0, .int .u8 0, .int .u8 0, .int .u8 0, .int .u8 0, .int .u16 0, .int .u16 0], .int .i64 1] w fun e w' => e = .returned (.bool z) ∧ Below w.heap.size w w' := by
  subst hz; exact is_c ⟨0, f, 0, 0, 0, 0, 0, 0, 0, 0⟩ 1 h1 h2 w
theorem i2 (f : Int) (z : Bool) (h1 : 0 ≤ f) (h2 : f < 256) (hz : (f / 16 % 2 == 1) = z) (w : World) :
    Calls Try.prog 14 #[.agg #[.int .u8 0, .int .u8 f, .int .u8 0, .int .u8 0, .int .u8 0, .int .u8 0, .int .u8 0, .int .u8 0, .int .u16 0, .int .u16 0], .int .i64 2] w fun e w' => e = .returned (.bool (!z)) ∧ Below w.heap.size w w' := by
  subst hz; exact is_c ⟨0, f, 0, 0, 0, 0, 0, 0, 0, 0⟩ 2 h1 h2 w
theorem i3 (f : Int) (z : Bool) (h1 : 0 ≤ f) (h2 : f < 256) (hz : (f / 16 % 2 == 1) = z) (w : World) :
    Calls Try.prog 14 #[.agg #[.int .u8 0, .int .u8 f, .int .u8 0, .int .u8 0, .int .u8 0, .int .u8 0, .int .u8 0, .int .u8 0, .int .u16 0, .int .u16 0], .int .i64 3] w fun e w' => e = .returned (.bool z) ∧ Below w.heap.size w w' := by
  subst hz; exact is_c ⟨0, f, 0, 0, 0, 0, 0, 0, 0, 0⟩ 3 h1 h2 w
theorem i4 (f : Int) (h1 : 0 ≤ f) (h2 : f < 256) (w : World) :
    Calls Try.prog 14 #[.agg #[.int .u8 0, .int .u8 f, .int .u8 0, .int .u8 0, .int .u8 0, .int .u8 0, .int .u8 0, .int .u8 0, .int .u16 0, .int .u16 0], .int .i64 4] w fun e w' => e = .returned (.bool true) ∧ Below w.heap.size w w' := by
  exact is_c ⟨0, f, 0, 0, 0, 0, 0, 0, 0, 0⟩ 4 h1 h2 w
theorem i5 (f n : Int) (h1 : 0 ≤ f) (h2 : f < 256) (hn : n < 0 ∨ 4 < n) (w : World) :
    Calls Try.prog 14 #[.agg #[.int .u8 0, .int .u8 f, .int .u8 0, .int .u8 0, .int .u8 0, .int .u8 0, .int .u8 0, .int .u8 0, .int .u16 0, .int .u16 0], .int .i64 n] w fun e w' => e = .returned (.bool false) ∧ Below w.heap.size w w' := by
  have e : isV ⟨0, f, 0, 0, 0, 0, 0, 0, 0, 0⟩ n = false := by
    unfold isV; rw [if_neg (by omega), if_neg (by omega), if_neg (by omega), if_neg (by omega)]
    simp; omega
  exact e ▸ is_c ⟨0, f, 0, 0, 0, 0, 0, 0, 0, 0⟩ n h1 h2 w

end Go.Proofs.Ytiolfmmekcahaaa.regsConds
