/-
  What each function of package regs returns, for every set of registers and every number: contracts of the calls, with no condition but that each argument fits its kind.
-/
import Derived.Test.YtngdogldgcgnjaaGreatRows
import Derived.WalkKit
import Derived.ProofKit
import Derived.OpenShut
import Derived.WalkLawsBesides
import Derived.Outline
import Derived.Lib.Hide
import Derived.Laws.BitsAllLaws
import Derived.Laws.ShiftsVarLaws
import Derived.BigRegion
import Derived.Below
namespace Go.Proofs.YtngdogldgcgnjaaGreat.Reg
open Go.ChangeShapes Go.WideShapes Go.ChangeAt Go.RowKit

/-! ### Plain data -/
structure RR where
 a : Int
 f : Int
 b : Int
 c : Int
 d : Int
 e : Int
 h : Int
 l : Int
 sp : Int
 pc : Int

def RR.ok (r : RR) : Prop := (0 ≤ r.a ∧ r.a < 256) ∧ (0 ≤ r.f ∧ r.f < 256) ∧ (0 ≤ r.b ∧ r.b < 256) ∧ (0 ≤ r.c ∧ r.c < 256) ∧ (0 ≤ r.d ∧ r.d < 256) ∧ (0 ≤ r.e ∧ r.e < 256) ∧ (0 ≤ r.h ∧ r.h < 256) ∧ (0 ≤ r.l ∧ r.l < 256) ∧ (0 ≤ r.sp ∧ r.sp < 65536) ∧ (0 ≤ r.pc ∧ r.pc < 65536)
def noR : RR := ⟨0, 0, 0, 0, 0, 0, 0, 0, 0, 0⟩
def getV (r : RR) (n : Int) : Int := if n = 0 then r.b else if n = 1 then r.c else if n = 2 then r.d else if n = 3 then r.e else if n = 4 then r.h else if n = 5 then r.l else if n = 7 then r.a else 0
def getE (n : Int) : Int := if n = 0 ∨ n = 1 ∨ n = 2 ∨ n = 3 ∨ n = 4 ∨ n = 5 ∨ n = 7 then 0 else 1
def setR (r : RR) (n x : Int) : RR := if n = 0 then { r with b := x } else if n = 1 then { r with c := x } else if n = 2 then { r with d := x } else if n = 3 then { r with e := x } else if n = 4 then { r with h := x } else if n = 5 then { r with l := x } else if n = 7 then { r with a := x } else noR
def pairV (r : RR) (n : Int) : Int := if n = 0 then r.b * 256 + r.c else if n = 1 then r.d * 256 + r.e else if n = 2 then r.h * 256 + r.l else if n = 3 then r.sp else if n = 4 then r.a * 256 + r.f / 16 * 16 else 0
def pairE (n : Int) : Int := if n = 0 ∨ n = 1 ∨ n = 2 ∨ n = 3 ∨ n = 4 then 0 else 1
def setP (r : RR) (n x : Int) : RR := if n = 0 then { r with b := x / 256, c := x % 256 } else if n = 1 then { r with d := x / 256, e := x % 256 } else if n = 2 then { r with h := x / 256, l := x % 256 } else if n = 3 then { r with sp := x } else if n = 4 then { r with a := x / 256, f := x % 256 / 16 * 16 } else noR
def isV (r : RR) (n : Int) : Bool := if n = 0 then !(r.f / 128 == 1) else if n = 1 then r.f / 128 == 1 else if n = 2 then !(r.f / 16 % 2 == 1) else if n = 3 then r.f / 16 % 2 == 1 else n == 4

theorem byte_all {P : Int → Prop} (h : ∀ n : Fin 256, P (n.val : Int)) (a : Int) (h1 : 0 ≤ a) (h2 : a < 256) : P a := by
 have := h ⟨a.toNat, by omega⟩
 rwa [show ((a.toNat : Nat) : Int) = a by omega] at this
theorem low4 (a : Int) (h1 : 0 ≤ a) (h2 : a < 256) : bits .and .u8 a 240 = a / 16 * 16 :=
 byte_all (P := fun a => bits .and .u8 a 240 = a / 16 * 16) (by decide +kernel) a h1 h2
theorem z0 (a : Int) (h1 : 0 ≤ a) (h2 : a < 256) : (bits .and .u8 a 128 == 0) = !(a / 128 == 1) :=
 byte_all (P := fun a => (bits .and .u8 a 128 == 0) = !(a / 128 == 1)) (by decide +kernel) a h1 h2
theorem z1 (a : Int) (h1 : 0 ≤ a) (h2 : a < 256) : (bits .and .u8 a 128 != 0) = (a / 128 == 1) :=
 byte_all (P := fun a => (bits .and .u8 a 128 != 0) = (a / 128 == 1)) (by decide +kernel) a h1 h2
theorem c0 (a : Int) (h1 : 0 ≤ a) (h2 : a < 256) : (bits .and .u8 a 16 == 0) = !(a / 16 % 2 == 1) :=
 byte_all (P := fun a => (bits .and .u8 a 16 == 0) = !(a / 16 % 2 == 1)) (by decide +kernel) a h1 h2
theorem c1 (a : Int) (h1 : 0 ≤ a) (h2 : a < 256) : (bits .and .u8 a 16 != 0) = (a / 16 % 2 == 1) :=
 byte_all (P := fun a => (bits .and .u8 a 16 != 0) = (a / 16 % 2 == 1)) (by decide +kernel) a h1 h2
theorem or16 (h l : Int) (h1 : 0 ≤ h) (h2 : h < 256) (h3 : 0 ≤ l) (h4 : l < 256) : bits .or .u16 (h * 256) l = h * 256 + l := by
 rw [u16_or _ _ (by omega) (by omega) (by omega) (by omega)]
 obtain ⟨m, rfl⟩ := Int.eq_ofNat_of_zero_le h1
 obtain ⟨k, rfl⟩ := Int.eq_ofNat_of_zero_le h3
 have e1 : ((m : Int) * 256).toNat = 2 ^ 8 * m := by omega
 have e2 : (k : Int).toNat = k := rfl
 rw [e1, e2, ← Nat.two_pow_add_eq_or_of_lt (by omega)]
 omega

theorem bcell {W w1 : World} (hb : Below W.heap.size W w1) : (∀ b o, b < W.heap.size → w1.cell? ⟨b, o, none⟩ = W.cell? ⟨b, o, none⟩) ∧ (∀ b o, b < W.heap.size → w1.frozen? ⟨b, o, none⟩ = W.frozen? ⟨b, o, none⟩) :=
 ⟨fun b o h => hb.cell (p := ⟨b, o, none⟩) h, fun b o h => hb.frozen (p := ⟨b, o, none⟩) h⟩

/-! ### The calls -/
theorem word_c (h l : Int) (w : World) (h1 : 0 ≤ h) (h2 : h < 256) (h3 : 0 ≤ l) (h4 : l < 256) :
  Calls Tryz.prog 105 #[.int .u8 h, .int .u8 l] w fun e w' => e = .returned (.int .u16 (h * 256 + l)) ∧ w = w' := by
 have H := Lib.hid (or16 h l h1 h2 h3 h4)
 go_enter Tryz.func105, Tryz.ntmps105
 go_wp2
 go_ret
 rw [← H.out]
 exact ⟨rfl, rfl⟩

theorem word_r (h l : Int) (w : World) (h1 : 0 ≤ h) (h2 : h < 256) (h3 : 0 ≤ l) (h4 : l < 256) :
  Calls Tryz.prog 69 #[.int .u8 h, .int .u8 l] w fun e w' => e = .returned (.int .u16 (h * 256 + l)) ∧ w = w' := by
 go_enter Tryz.func69, Tryz.ntmps69
 go_wp2
 go_ret
 exact ⟨rfl, rfl⟩

def placeP (bl : Nat) (n : Int) : Option Addr := if n = 0 then some ⟨bl, 2, none⟩ else if n = 1 then some ⟨bl, 3, none⟩ else if n = 2 then some ⟨bl, 4, none⟩ else if n = 3 then some ⟨bl, 5, none⟩ else if n = 4 then some ⟨bl, 6, none⟩ else if n = 5 then some ⟨bl, 7, none⟩ else if n = 7 then some ⟨bl, 0, none⟩ else none

set_option maxHeartbeats 2000000 in
theorem place_c (bl : Nat) (n : Int) (w : World) :
  Calls Tryz.prog 127 #[.pointer (some ⟨bl, 0, none⟩), .int .i64 n] w fun e w' => e = .returned (.pointer (placeP bl n)) ∧ Below w.heap.size w w' := by
 have hB : ∀ (o : Obj), Below w.heap.size w (w.alloc o).drew := fun o => ((Below.refl _ _).alloc (Nat.le_refl _) _).drew
 have HB := Lib.hid hB; clear hB
 by_cases h0 : n < 0
 ·have e : placeP bl n = none := by unfold placeP; rw [if_neg (by omega), if_neg (by omega), if_neg (by omega), if_neg (by omega), if_neg (by omega), if_neg (by omega), if_neg (by omega)]
  rw [e]; clear e
  go_enter Tryz.func127, Tryz.ntmps127
  go_wp2
  go_region
  go_wp2
  go_ret
  exact ⟨rfl, HB.out _⟩
 by_cases h8 : 8 ≤ n
 ·have e : placeP bl n = none := by unfold placeP; rw [if_neg (by omega), if_neg (by omega), if_neg (by omega), if_neg (by omega), if_neg (by omega), if_neg (by omega), if_neg (by omega)]
  rw [e]; clear e
  go_enter Tryz.func127, Tryz.ntmps127
  go_wp2
  go_region
  go_wp2
  go_ret
  exact ⟨rfl, HB.out _⟩
 rcases (by omega : n = 0 ∨ n = 1 ∨ n = 2 ∨ n = 3 ∨ n = 4 ∨ n = 5 ∨ n = 6 ∨ n = 7) with rfl | rfl | rfl | rfl | rfl | rfl | rfl | rfl
 all_goals
  simp only [placeP]
  clear h0 h8
  go_enter Tryz.func127, Tryz.ntmps127
  go_wp2
  go_region
  go_wp2
  go_ret
  exact ⟨rfl, HB.out _⟩

set_option maxHeartbeats 2000000 in
theorem is_c (r : RR) (n : Int) (h1 : 0 ≤ r.f) (h2 : r.f < 256) (w : World) :
  Calls Tryz.prog 72 #[.agg #[.int .u8 r.a, .int .u8 r.f, .int .u8 r.b, .int .u8 r.c, .int .u8 r.d, .int .u8 r.e, .int .u8 r.h, .int .u8 r.l, .int .u16 r.sp, .int .u16 r.pc], .int .i64 n] w fun e w' => e = .returned (.bool (isV r n)) ∧ Below w.heap.size w w' := by
 have hB : ∀ (o : Obj), Below w.heap.size w (w.alloc o) := fun o => (Below.refl _ _).alloc (Nat.le_refl _) _
 have HB := Lib.hid hB; clear hB
 have e0 := Lib.hid (z0 r.f h1 h2)
 have e1 := Lib.hid (z1 r.f h1 h2)
 have e2 := Lib.hid (c0 r.f h1 h2)
 have e3 := Lib.hid (c1 r.f h1 h2)
 by_cases n0 : n = 0
 ·subst n0
  go_enter Tryz.func72, Tryz.ntmps72
  go_wp2
  go_ret
  refine ⟨?_, HB.out _⟩
  rw [show isV r 0 = !(r.f / 128 == 1) from rfl, ← e0.out]; rfl
 by_cases n1 : n = 1
 ·subst n1
  clear n0
  go_enter Tryz.func72, Tryz.ntmps72
  go_wp2
  go_ret
  refine ⟨?_, HB.out _⟩
  rw [show isV r 1 = (r.f / 128 == 1) from rfl, ← e1.out]; rfl
 by_cases n2 : n = 2
 ·subst n2
  clear n0 n1
  go_enter Tryz.func72, Tryz.ntmps72
  go_wp2
  go_ret
  refine ⟨?_, HB.out _⟩
  rw [show isV r 2 = !(r.f / 16 % 2 == 1) from rfl, ← e2.out]; rfl
 by_cases n3 : n = 3
 ·subst n3
  clear n0 n1 n2
  go_enter Tryz.func72, Tryz.ntmps72
  go_wp2
  go_ret
  refine ⟨?_, HB.out _⟩
  rw [show isV r 3 = (r.f / 16 % 2 == 1) from rfl, ← e3.out]; rfl
 have e4 : isV r n = (n == 4) := by unfold isV; rw [if_neg n0, if_neg n1, if_neg n2, if_neg n3]
 rw [e4]; clear e4
 go_enter Tryz.func72, Tryz.ntmps72
 go_wp2
 go_ret
 exact ⟨rfl, HB.out _⟩
end Go.Proofs.YtngdogldgcgnjaaGreat.Reg
