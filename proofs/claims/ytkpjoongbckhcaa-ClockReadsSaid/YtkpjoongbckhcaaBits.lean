/-
  Bits of bytes and of days, as sums; no program, no condition.
-/
import Derived.Test.YtkpjoongbckhcaaPure
namespace Go.Proofs.Ytkpjoongbckhcaa
theorem byte_all {P : Int → Prop} (h : ∀ n : Fin 256, P (n.val : Int)) (a : Int) (h1 : 0 ≤ a) (h2 : a < 256) : P a := by
  have := h ⟨a.toNat, by omega⟩
  rwa [show ((a.toNat : Nat) : Int) = a by omega] at this
theorem day_all {P : Int → Prop} (h : ∀ n : Fin 512, P (n.val : Int)) (a : Int) (h1 : 0 ≤ a) (h2 : a < 512) : P a := by
  have := h ⟨a.toNat, by omega⟩
  rwa [show ((a.toNat : Nat) : Int) = a by omega] at this
theorem and63 (a : Int) (h1 : 0 ≤ a) (h2 : a < 256) : bits .and .u8 a 63 = a % 64 := byte_all (P := fun a => bits .and .u8 a 63 = a % 64) (by decide +kernel) a h1 h2
theorem and31 (a : Int) (h1 : 0 ≤ a) (h2 : a < 256) : bits .and .u8 a 31 = a % 32 := byte_all (P := fun a => bits .and .u8 a 31 = a % 32) (by decide +kernel) a h1 h2
theorem and1 (a : Int) (h1 : 0 ≤ a) (h2 : a < 256) : bits .and .u8 a 1 = a % 2 := byte_all (P := fun a => bits .and .u8 a 1 = a % 2) (by decide +kernel) a h1 h2
theorem and64 (a : Int) (h1 : 0 ≤ a) (h2 : a < 256) : bits .and .u8 a 64 = a / 64 % 2 * 64 := byte_all (P := fun a => bits .and .u8 a 64 = a / 64 % 2 * 64) (by decide +kernel) a h1 h2
theorem and128 (a : Int) (h1 : 0 ≤ a) (h2 : a < 256) : bits .and .u8 a 128 = a / 128 * 128 := byte_all (P := fun a => bits .and .u8 a 128 = a / 128 * 128) (by decide +kernel) a h1 h2
theorem or64 (a : Int) (h1 : 0 ≤ a) (h2 : a < 256) : bits .or .u8 a 64 = a - a / 64 % 2 * 64 + 64 := byte_all (P := fun a => bits .or .u8 a 64 = a - a / 64 % 2 * 64 + 64) (by decide +kernel) a h1 h2
theorem and193 (a : Int) (h1 : 0 ≤ a) (h2 : a < 256) : bits .and .u8 a 193 = a % 2 + a / 64 % 2 * 64 + a / 128 * 128 := byte_all (P := fun a => bits .and .u8 a 193 = a % 2 + a / 64 % 2 * 64 + a / 128 * 128) (by decide +kernel) a h1 h2
theorem and255 (a : Int) (h1 : 0 ≤ a) (h2 : a < 256) : bits .and .u8 a 255 = a := byte_all (P := fun a => bits .and .u8 a 255 = a) (by decide +kernel) a h1 h2
theorem dand (a : Int) (h1 : 0 ≤ a) (h2 : a < 512) : bits .and .i64 a 256 = a / 256 * 256 := day_all (P := fun a => bits .and .i64 a 256 = a / 256 * 256) (by decide +kernel) a h1 h2
theorem dlo (a : Int) (h1 : 0 ≤ a) (h2 : a < 512) : bits .andNot .i64 a 255 = a / 256 * 256 := day_all (P := fun a => bits .andNot .i64 a 255 = a / 256 * 256) (by decide +kernel) a h1 h2
theorem dhi (a : Int) (h1 : 0 ≤ a) (h2 : a < 512) : bits .andNot .i64 a 256 = a % 256 := day_all (P := fun a => bits .andNot .i64 a 256 = a % 256) (by decide +kernel) a h1 h2
theorem dor (c x : Int) (hc : 0 ≤ c) (hc2 : c < 2) (h1 : 0 ≤ x) (h2 : x < 256) : bits .or .i64 (c * 256) x = c * 256 + x := by
  rcases (by omega : c = 0 ∨ c = 1) with rfl | rfl
  · exact byte_all (P := fun x => bits .or .i64 (0 * 256) x = 0 * 256 + x) (by decide +kernel) x h1 h2
  · exact byte_all (P := fun x => bits .or .i64 (1 * 256) x = 1 * 256 + x) (by decide +kernel) x h1 h2
theorem dor2 (x : Int) (h1 : 0 ≤ x) (h2 : x < 256) : bits .or .i64 x 256 = x + 256 := byte_all (P := fun x => bits .or .i64 x 256 = x + 256) (by decide +kernel) x h1 h2
end Go.Proofs.Ytkpjoongbckhcaa
