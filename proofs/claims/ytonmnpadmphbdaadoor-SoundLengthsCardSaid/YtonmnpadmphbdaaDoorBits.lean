/-
  What the bits of a byte come to: for every byte; no condition.
-/
import Derived.Test.YtonmnpadmphbdaaDoorEnc
import Derived.WalkKit
namespace Go.Proofs.YtonmnpadmphbdaaDoor
open Go.ChangeShapes Go.WideShapes Go.ChangeAt Go.RowKit
set_option linter.unusedVariables false
set_option linter.unusedSimpArgs false
set_option maxRecDepth 100000
theorem byte_all {P : Int → Prop} (h : ∀ n : Fin 256, P (n.val : Int)) (a : Int) (h1 : 0 ≤ a) (h2 : a < 256) : P a := by
  have := h ⟨a.toNat, by omega⟩
  simpa [Int.toNat_of_nonneg h1] using this
theorem b128 (a : Int) (h1 : 0 ≤ a) (h2 : a < 256) : (bits .and .u8 a 128 != 0) = decide (128 ≤ a) := byte_all (P := fun a => (bits .and .u8 a 128 != 0) = decide (128 ≤ a)) (by decide +kernel) a h1 h2
theorem b248 (a : Int) (h1 : 0 ≤ a) (h2 : a < 256) : (bits .and .u8 a 248 != 0) = decide (8 ≤ a) := byte_all (P := fun a => (bits .and .u8 a 248 != 0) = decide (8 ≤ a)) (by decide +kernel) a h1 h2
theorem b8 (a : Int) (h1 : 0 ≤ a) (h2 : a < 256) : (bits .and .u8 a 8 != 0) = decide (a / 8 % 2 = 1) := byte_all (P := fun a => (bits .and .u8 a 8 != 0) = decide (a / 8 % 2 = 1)) (by decide +kernel) a h1 h2
theorem b64 (a : Int) (h1 : 0 ≤ a) (h2 : a < 256) : (bits .and .u8 a 64 == 0) = decide (a / 64 % 2 = 0) := byte_all (P := fun a => (bits .and .u8 a 64 == 0) = decide (a / 64 % 2 = 0)) (by decide +kernel) a h1 h2
theorem bn7 (a : Int) (h1 : 0 ≤ a) (h2 : a < 256) : (bits .andNot .u8 a 7) = a / 8 * 8 := byte_all (P := fun a => (bits .andNot .u8 a 7) = a / 8 * 8) (by decide +kernel) a h1 h2
theorem a127 (a : Int) (h1 : 0 ≤ a) (h2 : a < 256) : (bits .and .u8 a 127) = a % 128 := byte_all (P := fun a => (bits .and .u8 a 127) = a % 128) (by decide +kernel) a h1 h2
theorem a112 (a : Int) (h1 : 0 ≤ a) (h2 : a < 256) : (bits .and .u8 a 112) = a / 16 % 8 * 16 := byte_all (P := fun a => (bits .and .u8 a 112) = a / 16 % 8 * 16) (by decide +kernel) a h1 h2
theorem a7 (a : Int) (h1 : 0 ≤ a) (h2 : a < 256) : (bits .and .u8 a 7) = a % 8 := byte_all (P := fun a => (bits .and .u8 a 7) = a % 8) (by decide +kernel) a h1 h2
theorem or8 (a c : Int) (h0 : 0 ≤ a) (h1 : a < 32) (h2 : 0 ≤ c) (h3 : c < 8) : bits .or .u8 (a * 8) c = a * 8 + c := by
  have h : ∀ (i : Fin 32) (j : Fin 8), bits .or .u8 ((i.val : Int) * 8) (j.val : Int) = (i.val : Int) * 8 + (j.val : Int) := by decide +kernel
  have := h ⟨a.toNat, by omega⟩ ⟨c.toNat, by omega⟩
  simpa [Int.toNat_of_nonneg h0, Int.toNat_of_nonneg h2] using this
end Go.Proofs.YtonmnpadmphbdaaDoor
