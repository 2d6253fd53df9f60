/-
  What each function of package alu returns, for every input of its kinds: contracts of the calls, with no condition but that each argument fits its kind.
-/
import Derived.Test.YtngdogldgcgnjaaGreatRows
import Derived.WalkKit
import Derived.ProofKit
import Derived.OpenShut
import Derived.WalkLawsBesides
import Derived.Outline
import Derived.Lib.Hide
import Derived.Laws.BitsAllLaws
import Derived.Laws.ShiftsVarLaws
set_option maxRecDepth 100000
set_option maxHeartbeats 8000000
namespace Go.Proofs.YtngdogldgcgnjaaGreat.Alu
open Go.ChangeShapes Go.WideShapes Go.ChangeAt Go.RowKit
/-! ### Plain numbers -/
def fl (b : Int) (c : Bool) : Int := bif c then b else 0
def FL (z n h c : Bool) : Int := fl 128 z + fl 64 n + fl 32 h + fl 16 c
def zf (f : Int) : Bool := decide (f / 128 % 2 = 1)
def nf (f : Int) : Bool := decide (f / 64 % 2 = 1)
def hf (f : Int) : Bool := decide (f / 32 % 2 = 1)
def cf (f : Int) : Bool := decide (f / 16 % 2 = 1)
def addR (a b : Int) (c : Bool) : Int := (a + b + fl 1 c) % 256
def addF (a b : Int) (c : Bool) : Int := FL (addR a b c == 0) false (decide (15 < a % 16 + b % 16 + fl 1 c)) (decide (255 < a + b + fl 1 c))
def subR (a b : Int) (c : Bool) : Int := (a - b - fl 1 c) % 256
def subF (a b : Int) (c : Bool) : Int := FL (subR a b c == 0) true (decide (a % 16 < b % 16 + fl 1 c)) (decide (a < b + fl 1 c))
def incF (a f : Int) : Int := FL ((a + 1) % 256 == 0) false (a % 16 == 15) (cf f)
def decF (a f : Int) : Int := FL ((a - 1) % 256 == 0) true (a % 16 == 0) (cf f)
def daaR (a f : Int) : Int := bif nf f then (a - (fl 6 (hf f) + fl 96 (cf f))) % 256 else (a + (fl 6 (hf f || decide (9 < a % 16)) + fl 96 (cf f || decide (153 < a)))) % 256
def daaF (a f : Int) : Int := FL (daaR a f == 0) (nf f) false (cf f || (!nf f && decide (153 < a)))
def turnR (k a f : Int) : Int :=
 if k % 8 = 0 then a * 2 % 256 + a / 128 else if k % 8 = 1 then a / 2 + a % 2 * 128 else
 if k % 8 = 2 then a * 2 % 256 + fl 1 (cf f) else if k % 8 = 3 then a / 2 + fl 128 (cf f) else
 if k % 8 = 4 then a * 2 % 256 else if k % 8 = 5 then a / 2 + a / 128 * 128 else
 if k % 8 = 6 then a * 16 % 256 + a / 16 else a / 2
def turnO (k a : Int) : Bool :=
 if k % 8 = 6 then false else if k % 2 = 0 then a / 128 == 1 else a % 2 == 1
def turnF (k a f : Int) : Int := FL (turnR k a f == 0) false false (turnO k a)
def bitF (k a f : Int) : Int := FL (a / 2 ^ (k % 8).toNat % 2 == 0) false true (cf f)
def add16F (a b f : Int) : Int := FL (zf f) false (decide (4095 < a % 4096 + b % 4096)) (decide (65535 < a + b))
def signed (e : Int) : Int := if 127 < e then e - 256 else e
def shiftR (a e : Int) : Int := (a + signed e) % 65536
def shiftF (a e : Int) : Int := FL false false (decide (15 < a % 16 + e % 16)) (decide (255 < a % 256 + e))
theorem fl_bd (b : Int) (hb : 0 ≤ b) (c : Bool) : 0 ≤ fl b c ∧ fl b c ≤ b := by cases c <;> simp [fl] <;> omega
theorem byte_all {P : Int → Prop} (h : ∀ n : Fin 256, P (n.val : Int)) (a : Int) (h1 : 0 ≤ a) (h2 : a < 256) : P a := by
 have := h ⟨a.toNat, by omega⟩
 rwa [show ((a.toNat : Nat) : Int) = a by omega] at this
theorem or2 (x y : Bool) : bits .or .u8 (fl 128 x) (fl 16 y) = FL x false false y := by cases x <;> cases y <;> kernel_rfl
theorem or2h (x : Bool) : bits .or .u8 (fl 128 x) 32 = FL x false true false := by cases x <;> kernel_rfl
theorem or3 (x y z : Bool) : bits .or .u8 (bits .or .u8 (fl 128 x) (fl 32 y)) (fl 16 z) = FL x false y z := by
 cases x <;> cases y <;> cases z <;> kernel_rfl
theorem or3h (x z : Bool) : bits .or .u8 (bits .or .u8 (fl 128 x) 32) (fl 16 z) = FL x false true z := by
 cases x <;> cases z <;> kernel_rfl
theorem or3n (x z : Bool) : bits .or .u8 (bits .or .u8 (fl 128 x) 64) (fl 16 z) = FL x true false z := by
 cases x <;> cases z <;> kernel_rfl
theorem or3n0 (x : Bool) : bits .or .u8 (bits .or .u8 (fl 128 x) 64) 0 = FL x true false false := by cases x <;> kernel_rfl
theorem or3n1 (x : Bool) : bits .or .u8 (bits .or .u8 (fl 128 x) 64) 16 = FL x true false true := by cases x <;> kernel_rfl
theorem or4 (x y z : Bool) : bits .or .u8 (bits .or .u8 (bits .or .u8 (fl 128 x) 64) (fl 32 y)) (fl 16 z) = FL x true y z := by
 cases x <;> cases y <;> cases z <;> kernel_rfl
theorem and16 (f : Int) (h1 : 0 ≤ f) (h2 : f < 256) : bits .and .u8 f 16 = fl 16 (cf f) := byte_all (P := fun f => bits .and .u8 f 16 = fl 16 (cf f)) (by decide +kernel) f h1 h2
theorem and32 (f : Int) (h1 : 0 ≤ f) (h2 : f < 256) : bits .and .u8 f 32 = fl 32 (hf f) := byte_all (P := fun f => bits .and .u8 f 32 = fl 32 (hf f)) (by decide +kernel) f h1 h2
theorem and64 (f : Int) (h1 : 0 ≤ f) (h2 : f < 256) : bits .and .u8 f 64 = fl 64 (nf f) := byte_all (P := fun f => bits .and .u8 f 64 = fl 64 (nf f)) (by decide +kernel) f h1 h2
theorem and128 (f : Int) (h1 : 0 ≤ f) (h2 : f < 256) : bits .and .u8 f 128 = fl 128 (zf f) := byte_all (P := fun f => bits .and .u8 f 128 = fl 128 (zf f)) (by decide +kernel) f h1 h2
theorem FL_bd (z n h c : Bool) : 0 ≤ FL z n h c ∧ FL z n h c ≤ 240 ∧ FL z n h c % 16 = 0 := by
 cases z <;> cases n <;> cases h <;> cases c <;> decide
theorem and48 (z n h c : Bool) : bits .and .u8 (FL z n h c) 48 = FL false false h c := by
 cases z <;> cases n <;> cases h <;> cases c <;> kernel_rfl
theorem u16w (n : Int) : IntKind.u16.wrap n = n % 65536 := IntKind.wrap_u16 n
theorem m4095 (a : Int) (h1 : 0 ≤ a) (h2 : a < 65536) : bits .and .u16 a 4095 = a % 4096 := by
 rw [u16_and a 4095 h1 h2 (by decide) (by decide)]
 have e : (4095 : Int).toNat = 2 ^ 12 - 1 := by decide
 rw [e, Nat.and_two_pow_sub_one_eq_mod]; omega
theorem and7n (k : Int) : ((BitVec.ofInt 64 k &&& BitVec.ofInt 64 7).toNat : Int) = k % 8 := by
 have e : (BitVec.ofInt 64 7 : BitVec 64).toNat = 2 ^ 3 - 1 := by decide
 rw [BitVec.toNat_and, e, Nat.and_two_pow_sub_one_eq_mod, BitVec.toNat_ofInt]
 omega
theorem and7 (k : Int) : bits .and .i64 k 7 = k % 8 := by
 have h : bits .and .i64 k 7 = IntKind.i64.wrap ((BitVec.ofInt 64 k &&& BitVec.ofInt 64 7).toNat : Int) := rfl; rw [h, and7n]
 simp [IntKind.wrap, IntKind.bits, IntKind.signed]
 omega
theorem bit1 (a : Int) (h1 : 0 ≤ a) (h2 : a < 256) : bits .and .u8 a 1 = a % 2 :=
 byte_all (P := fun a => bits .and .u8 a 1 = a % 2) (by decide +kernel) a h1 h2
theorem t0 (a : Int) (h1 : 0 ≤ a) (h2 : a < 256) : bits .or .u8 (a * 2 % 256) (a / 128) = a * 2 % 256 + a / 128 :=
 byte_all (P := fun a => bits .or .u8 (a * 2 % 256) (a / 128) = a * 2 % 256 + a / 128) (by decide +kernel) a h1 h2
theorem t1 (a : Int) (h1 : 0 ≤ a) (h2 : a < 256) : bits .or .u8 (a / 2) (bits .and .u8 a 1 * 128 % 256) = a / 2 + a % 2 * 128 :=
 byte_all (P := fun a => bits .or .u8 (a / 2) (bits .and .u8 a 1 * 128 % 256) = a / 2 + a % 2 * 128) (by decide +kernel) a h1 h2
theorem t2 (a : Int) (h1 : 0 ≤ a) (h2 : a < 256) (c : Bool) : bits .or .u8 (a * 2 % 256) (fl 1 c) = a * 2 % 256 + fl 1 c :=
 byte_all (P := fun a => ∀ c, bits .or .u8 (a * 2 % 256) (fl 1 c) = a * 2 % 256 + fl 1 c) (by decide +kernel) a h1 h2 c
theorem t3 (a : Int) (h1 : 0 ≤ a) (h2 : a < 256) (c : Bool) : bits .or .u8 (a / 2) (fl 1 c * 128 % 256) = a / 2 + fl 128 c :=
 byte_all (P := fun a => ∀ c, bits .or .u8 (a / 2) (fl 1 c * 128 % 256) = a / 2 + fl 128 c) (by decide +kernel) a h1 h2 c
theorem t4 (a : Int) (h1 : 0 ≤ a) (h2 : a < 256) : bits .or .u8 (a * 2 % 256) 0 = a * 2 % 256 :=
 byte_all (P := fun a => bits .or .u8 (a * 2 % 256) 0 = a * 2 % 256) (by decide +kernel) a h1 h2
theorem t5 (a : Int) (h1 : 0 ≤ a) (h2 : a < 256) : bits .or .u8 (a / 2) (bits .and .u8 a 128) = a / 2 + a / 128 * 128 :=
 byte_all (P := fun a => bits .or .u8 (a / 2) (bits .and .u8 a 128) = a / 2 + a / 128 * 128) (by decide +kernel) a h1 h2
theorem t6 (a : Int) (h1 : 0 ≤ a) (h2 : a < 256) : bits .or .u8 (a * 16 % 256) (a / 16) = a * 16 % 256 + a / 16 :=
 byte_all (P := fun a => bits .or .u8 (a * 16 % 256) (a / 16) = a * 16 % 256 + a / 16) (by decide +kernel) a h1 h2
theorem t7 (a : Int) (h1 : 0 ≤ a) (h2 : a < 256) : bits .or .u8 (a / 2) 0 = a / 2 :=
 byte_all (P := fun a => bits .or .u8 (a / 2) 0 = a / 2) (by decide +kernel) a h1 h2
theorem top1 (a : Int) (h1 : 0 ≤ a) (h2 : a < 256) : (a / 128 != 0) = (a / 128 == 1) :=
 byte_all (P := fun a => (a / 128 != 0) = (a / 128 == 1)) (by decide +kernel) a h1 h2
theorem low1 (a : Int) (h1 : 0 ≤ a) (h2 : a < 256) : (a % 2 != 0) = (a % 2 == 1) :=
 byte_all (P := fun a => (a % 2 != 0) = (a % 2 == 1)) (by decide +kernel) a h1 h2
theorem bitAt (j : Nat) (hj : j < 8) (a : Int) (h1 : 0 ≤ a) (h2 : a < 256) : bits .and .u8 (a / 2 ^ j) 1 = a / 2 ^ j % 2 :=
 byte_all (P := fun a => ∀ j : Fin 8, bits .and .u8 (a / 2 ^ j.val) 1 = a / 2 ^ j.val % 2) (by decide +kernel) a h1 h2 ⟨j, hj⟩
theorem ret2 {k k' : IntKind} {a b a' b' : Int} (h : a = a') (h' : b = b') : Ending.returned (.tuple #[.int k a, .int k' b]) = .returned (.tuple #[.int k a', .int k' b']) := by rw [h, h']
theorem ret1 {k : IntKind} {a a' : Int} (h : a = a') : Ending.returned (.int k a) = .returned (.int k a') := by rw [h]
/-! ### The small ones -/
theorem flag_c (b : Int) (c : Bool) (w : World) :
  Calls Tryz.prog 114 #[.int .u8 b, .bool c] w fun e w' => e = .returned (.int .u8 (fl b c)) ∧ w = w' := by
 cases c
 all_goals
  go_enter Tryz.func114, Tryz.ntmps114; go_wp2; go_ret
  exact ⟨rfl, rfl⟩
theorem one_c (c : Bool) (w : World) :
  Calls Tryz.prog 119 #[.bool c] w fun e w' => e = .returned (.int .u8 (fl 1 c)) ∧ w = w' := by
 go_enter Tryz.func119, Tryz.ntmps119
 go_wp2_with (go_at_call 114; refine (flag_c _ _ _).mono ?_; rintro e w' ⟨rfl, rfl⟩)
 go_ret
 exact ⟨rfl, rfl⟩
theorem zero_c (r : Int) (w : World) :
  Calls Tryz.prog 113 #[.int .u8 r] w fun e w' => e = .returned (.int .u8 (fl 128 (r == 0))) ∧ w = w' := by
 go_enter Tryz.func113, Tryz.ntmps113
 go_wp2_with (go_at_call 114; refine (flag_c _ _ _).mono ?_; rintro e w' ⟨rfl, rfl⟩)
 go_ret
 exact ⟨rfl, rfl⟩
theorem low_c (r : Int) (w : World) :
  Calls Tryz.prog 115 #[.int .u8 r] w fun e w' => e = .returned (.int .u8 (bits .and .u8 r 15)) ∧ w = w' := by
 go_enter Tryz.func115, Tryz.ntmps115; go_wp2; go_ret
 exact ⟨rfl, rfl⟩
theorem corr_c (x y : Bool) (w : World) :
  Calls Tryz.prog 120 #[.bool x, .bool y] w fun e w' => e = .returned (.int .u8 (fl 6 x + fl 96 y)) ∧ w = w' := by
 cases x <;> cases y
 all_goals
  go_enter Tryz.func120, Tryz.ntmps120; go_wp2; go_ret
  exact ⟨rfl, rfl⟩
/-! ### Sums -/
theorem add_c (a b : Int) (c : Bool) (h1 : 0 ≤ a) (h2 : a < 256) (h3 : 0 ≤ b) (h4 : b < 256) (w : World) :
  Calls Tryz.prog 108 #[.int .u8 a, .int .u8 b, .bool c] w fun e w' => e = .returned (.tuple #[.int .u8 (addR a b c), .int .u8 (addF a b c)]) ∧ w = w' := by
 go_enter Tryz.func108, Tryz.ntmps108
 go_wp2_with (first | (go_at_call 114; refine (flag_c _ _ _).mono ?_; rintro e w' ⟨rfl, rfl⟩) | (go_at_call 113; refine (zero_c _ _).mono ?_; rintro e w' ⟨rfl, rfl⟩) | (go_at_call 119; refine (one_c _ _).mono ?_; rintro e w' ⟨rfl, rfl⟩) | (go_at_call 115; refine (low_c _ _).mono ?_; rintro e w' ⟨rfl, rfl⟩) | (go_at_call 120; refine (corr_c _ _ _).mono ?_; rintro e w' ⟨rfl, rfl⟩))
 go_ret2
 have hc := fl_bd 1 (by decide) c
 refine ⟨ret2 ?_ ?_, rfl⟩
 ·unfold addR; rw [u16w, u16w]; omega
 ·rw [or3]; unfold addF addR; rw [u16w, u16w]
  rw [show (a + b + fl 1 c % 65536) % 65536 = a + b + fl 1 c by omega, show (a % 16 + b % 16 + fl 1 c) % 256 = a % 16 + b % 16 + fl 1 c by omega]
theorem sub_c (a b : Int) (c : Bool) (h1 : 0 ≤ a) (h2 : a < 256) (h3 : 0 ≤ b) (h4 : b < 256) (w : World) :
  Calls Tryz.prog 109 #[.int .u8 a, .int .u8 b, .bool c] w fun e w' => e = .returned (.tuple #[.int .u8 (subR a b c), .int .u8 (subF a b c)]) ∧ w = w' := by
 go_enter Tryz.func109, Tryz.ntmps109
 go_wp2_with (first | (go_at_call 114; refine (flag_c _ _ _).mono ?_; rintro e w' ⟨rfl, rfl⟩) | (go_at_call 113; refine (zero_c _ _).mono ?_; rintro e w' ⟨rfl, rfl⟩) | (go_at_call 119; refine (one_c _ _).mono ?_; rintro e w' ⟨rfl, rfl⟩) | (go_at_call 115; refine (low_c _ _).mono ?_; rintro e w' ⟨rfl, rfl⟩) | (go_at_call 120; refine (corr_c _ _ _).mono ?_; rintro e w' ⟨rfl, rfl⟩))
 go_ret2
 have hc := fl_bd 1 (by decide) c
 refine ⟨ret2 ?_ ?_, rfl⟩
 ·rfl
 ·rw [or4]; unfold subF subR; rw [u16w, u16w]
  rw [show (b + fl 1 c % 65536) % 65536 = b + fl 1 c by omega, show (b % 16 + fl 1 c) % 256 = b % 16 + fl 1 c by omega]
theorem and_c (a b : Int) (w : World) :
  Calls Tryz.prog 110 #[.int .u8 a, .int .u8 b] w fun e w' => e = .returned (.tuple #[.int .u8 (bits .and .u8 a b), .int .u8 (FL (bits .and .u8 a b == 0) false true false)]) ∧ w = w' := by
 go_enter Tryz.func110, Tryz.ntmps110
 go_wp2_with (first | (go_at_call 114; refine (flag_c _ _ _).mono ?_; rintro e w' ⟨rfl, rfl⟩) | (go_at_call 113; refine (zero_c _ _).mono ?_; rintro e w' ⟨rfl, rfl⟩) | (go_at_call 119; refine (one_c _ _).mono ?_; rintro e w' ⟨rfl, rfl⟩) | (go_at_call 115; refine (low_c _ _).mono ?_; rintro e w' ⟨rfl, rfl⟩) | (go_at_call 120; refine (corr_c _ _ _).mono ?_; rintro e w' ⟨rfl, rfl⟩))
 go_ret2
 exact ⟨ret2 rfl (or2h _), rfl⟩
theorem or_c (a b : Int) (w : World) :
  Calls Tryz.prog 112 #[.int .u8 a, .int .u8 b] w fun e w' => e = .returned (.tuple #[.int .u8 (bits .or .u8 a b), .int .u8 (FL (bits .or .u8 a b == 0) false false false)]) ∧ w = w' := by
 go_enter Tryz.func112, Tryz.ntmps112
 go_wp2_with (first | (go_at_call 114; refine (flag_c _ _ _).mono ?_; rintro e w' ⟨rfl, rfl⟩) | (go_at_call 113; refine (zero_c _ _).mono ?_; rintro e w' ⟨rfl, rfl⟩) | (go_at_call 119; refine (one_c _ _).mono ?_; rintro e w' ⟨rfl, rfl⟩) | (go_at_call 115; refine (low_c _ _).mono ?_; rintro e w' ⟨rfl, rfl⟩) | (go_at_call 120; refine (corr_c _ _ _).mono ?_; rintro e w' ⟨rfl, rfl⟩))
 go_ret2
 exact ⟨ret2 rfl (by simp [FL, fl]), rfl⟩
theorem xor_c (a b : Int) (w : World) :
  Calls Tryz.prog 111 #[.int .u8 a, .int .u8 b] w fun e w' => e = .returned (.tuple #[.int .u8 (bits .xor .u8 a b), .int .u8 (FL (bits .xor .u8 a b == 0) false false false)]) ∧ w = w' := by
 go_enter Tryz.func111, Tryz.ntmps111
 go_wp2_with (first | (go_at_call 114; refine (flag_c _ _ _).mono ?_; rintro e w' ⟨rfl, rfl⟩) | (go_at_call 113; refine (zero_c _ _).mono ?_; rintro e w' ⟨rfl, rfl⟩) | (go_at_call 119; refine (one_c _ _).mono ?_; rintro e w' ⟨rfl, rfl⟩) | (go_at_call 115; refine (low_c _ _).mono ?_; rintro e w' ⟨rfl, rfl⟩) | (go_at_call 120; refine (corr_c _ _ _).mono ?_; rintro e w' ⟨rfl, rfl⟩))
 go_ret2
 exact ⟨ret2 rfl (by simp [FL, fl]), rfl⟩
/-! ### One more, one less, digits -/
theorem inc_c (a f : Int) (h1 : 0 ≤ a) (h2 : a < 256) (h3 : 0 ≤ f) (h4 : f < 256) (w : World) :
  Calls Tryz.prog 93 #[.int .u8 a, .int .u8 f] w fun e w' => e = .returned (.tuple #[.int .u8 ((a + 1) % 256), .int .u8 (incF a f)]) ∧ w = w' := by
 go_enter Tryz.func93, Tryz.ntmps93
 go_wp2_with (first | (go_at_call 114; refine (flag_c _ _ _).mono ?_; rintro e w' ⟨rfl, rfl⟩) | (go_at_call 113; refine (zero_c _ _).mono ?_; rintro e w' ⟨rfl, rfl⟩) | (go_at_call 119; refine (one_c _ _).mono ?_; rintro e w' ⟨rfl, rfl⟩) | (go_at_call 115; refine (low_c _ _).mono ?_; rintro e w' ⟨rfl, rfl⟩) | (go_at_call 120; refine (corr_c _ _ _).mono ?_; rintro e w' ⟨rfl, rfl⟩))
 go_ret2
 refine ⟨ret2 ?_ ?_, rfl⟩
 ·rfl
 ·rw [and16 f h3 h4, or3]; rfl
theorem dec_c (a f : Int) (h1 : 0 ≤ a) (h2 : a < 256) (h3 : 0 ≤ f) (h4 : f < 256) (w : World) :
  Calls Tryz.prog 94 #[.int .u8 a, .int .u8 f] w fun e w' => e = .returned (.tuple #[.int .u8 ((a - 1) % 256), .int .u8 (decF a f)]) ∧ w = w' := by
 go_enter Tryz.func94, Tryz.ntmps94
 go_wp2_with (first | (go_at_call 114; refine (flag_c _ _ _).mono ?_; rintro e w' ⟨rfl, rfl⟩) | (go_at_call 113; refine (zero_c _ _).mono ?_; rintro e w' ⟨rfl, rfl⟩) | (go_at_call 119; refine (one_c _ _).mono ?_; rintro e w' ⟨rfl, rfl⟩) | (go_at_call 115; refine (low_c _ _).mono ?_; rintro e w' ⟨rfl, rfl⟩) | (go_at_call 120; refine (corr_c _ _ _).mono ?_; rintro e w' ⟨rfl, rfl⟩))
 go_ret2
 refine ⟨ret2 ?_ ?_, rfl⟩
 ·rfl
 ·rw [and16 f h3 h4, or4]; rfl
theorem daa_c (a f : Int) (h1 : 0 ≤ a) (h2 : a < 256) (h3 : 0 ≤ f) (h4 : f < 256) (w : World) :
  Calls Tryz.prog 98 #[.int .u8 a, .int .u8 f] w fun e w' => e = .returned (.tuple #[.int .u8 (daaR a f), .int .u8 (daaF a f)]) ∧ w = w' := by
 have hn := and64 f h3 h4; have hh := and32 f h3 h4; have hc := and16 f h3 h4
 unfold daaF daaR
 generalize nf f = n at *; generalize hf f = h at *; generalize cf f = c at *; have e64 : fl 64 true = 64 := rfl; have e32 : fl 32 true = 32 := rfl; have e16 : fl 16 true = 16 := rfl; have z64 : fl 64 false = 0 := rfl; have z32 : fl 32 false = 0 := rfl; have z16 : fl 16 false = 0 := rfl
 by_cases ht : 153 < a
 all_goals
  cases n <;> cases h <;> cases c
  all_goals
   simp only [e64, e32, e16, z64, z32, z16] at hn hh hc
   clear e64 e32 e16 z64 z32 z16; go_enter Tryz.func98, Tryz.ntmps98
   go_wp2_with (first | (go_at_call 114; refine (flag_c _ _ _).mono ?_; rintro e w' ⟨rfl, rfl⟩) | (go_at_call 113; refine (zero_c _ _).mono ?_; rintro e w' ⟨rfl, rfl⟩) | (go_at_call 119; refine (one_c _ _).mono ?_; rintro e w' ⟨rfl, rfl⟩) | (go_at_call 115; refine (low_c _ _).mono ?_; rintro e w' ⟨rfl, rfl⟩) | (go_at_call 120; refine (corr_c _ _ _).mono ?_; rintro e w' ⟨rfl, rfl⟩))
   go_ret2
   refine ⟨ret2 ?_ ?_, rfl⟩
   ·first | (simp [ht]; done) | (have ht' : decide (153 < a) = false := decide_eq_false (by omega); simp [ht'])
   ·first | rw [or2] | rw [or3n0] | rw [or3n1]
    first | (simp [ht]; done) | (have ht' : decide (153 < a) = false := decide_eq_false (by omega); simp [ht'])
/-! ### Turns and bits -/
theorem turn_c (k a f : Int) (h1 : 0 ≤ a) (h2 : a < 256) (h3 : 0 ≤ f) (h4 : f < 256) (w : World) :
  Calls Tryz.prog 97 #[.int .i64 k, .int .u8 a, .int .u8 f] w fun e w' => e = .returned (.tuple #[.int .u8 (turnR k a f), .int .u8 (turnF k a f)]) ∧ w = w' := by
 have hc := and16 f h3 h4; have hk := and7 k
 have m : k % 8 = 0 ∨ k % 8 = 1 ∨ k % 8 = 2 ∨ k % 8 = 3 ∨ k % 8 = 4 ∨ k % 8 = 5 ∨ k % 8 = 6 ∨ k % 8 = 7 := by omega
 have e : turnR k a f = turnR (k % 8) a f ∧ turnF k a f = turnF (k % 8) a f := by
  have e2 : k % 2 = k % 8 % 2 := by omega
  unfold turnF turnO turnR
  rw [Int.emod_emod, ← e2]
  exact ⟨rfl, rfl⟩
 rw [e.1, e.2]; clear e
 unfold turnF turnR
 generalize cf f = c at *; have e16 : fl 16 true = 16 := rfl; have z16 : fl 16 false = 0 := rfl
 rcases m with m | m | m | m | m | m | m | m
 all_goals
  rw [m] at hk ⊢; clear m
  cases c
  all_goals
   simp only [e16, z16] at hc
   clear e16 z16; go_enter Tryz.func97, Tryz.ntmps97
   go_wp2_with (first | (go_at_call 114; refine (flag_c _ _ _).mono ?_; rintro e w' ⟨rfl, rfl⟩) | (go_at_call 113; refine (zero_c _ _).mono ?_; rintro e w' ⟨rfl, rfl⟩) | (go_at_call 119; refine (one_c _ _).mono ?_; rintro e w' ⟨rfl, rfl⟩) | (go_at_call 115; refine (low_c _ _).mono ?_; rintro e w' ⟨rfl, rfl⟩) | (go_at_call 120; refine (corr_c _ _ _).mono ?_; rintro e w' ⟨rfl, rfl⟩))
   go_ret2
   refine ⟨ret2 ?_ ?_, rfl⟩
   ·(first | rw [t0 a h1 h2] | rw [t1 a h1 h2] | rw [t2 a h1 h2 _] | rw [t3 a h1 h2 _] | rw [t4 a h1 h2] | rw [t5 a h1 h2] | rw [t6 a h1 h2] | rw [t7 a h1 h2]) <;> rfl
   ·rw [or2]
    first | rw [t0 a h1 h2] | rw [t1 a h1 h2] | rw [t2 a h1 h2 _] | rw [t3 a h1 h2 _] | rw [t4 a h1 h2] | rw [t5 a h1 h2] | rw [t6 a h1 h2] | rw [t7 a h1 h2]
    try rw [bit1 a h1 h2]
    first | rw [top1 a h1 h2] | rw [low1 a h1 h2] | skip
    rfl
theorem bit_c (k a f : Int) (h1 : 0 ≤ a) (h2 : a < 256) (h3 : 0 ≤ f) (h4 : f < 256) (w : World) :
  Calls Tryz.prog 116 #[.int .i64 k, .int .u8 a, .int .u8 f] w fun e w' => e = .returned (.int .u8 (bitF k a f)) ∧ w = w' := by
 have hc := and16 f h3 h4; have hk := and7 k
 have m : k % 8 = 0 ∨ k % 8 = 1 ∨ k % 8 = 2 ∨ k % 8 = 3 ∨ k % 8 = 4 ∨ k % 8 = 5 ∨ k % 8 = 6 ∨ k % 8 = 7 := by omega
 unfold bitF
 rcases m with m | m | m | m | m | m | m | m
 all_goals
  rw [m] at hk ⊢; clear m; have HC := Lib.hid hc; clear hc; go_enter Tryz.func116, Tryz.ntmps116
  go_wp2_with (first | (go_at_call 114; refine (flag_c _ _ _).mono ?_; rintro e w' ⟨rfl, rfl⟩) | (go_at_call 113; refine (zero_c _ _).mono ?_; rintro e w' ⟨rfl, rfl⟩) | (go_at_call 119; refine (one_c _ _).mono ?_; rintro e w' ⟨rfl, rfl⟩) | (go_at_call 115; refine (low_c _ _).mono ?_; rintro e w' ⟨rfl, rfl⟩) | (go_at_call 120; refine (corr_c _ _ _).mono ?_; rintro e w' ⟨rfl, rfl⟩))
  go_ret
  refine ⟨ret1 ?_, rfl⟩
  rw [HC.out, or3h]
  refine congrArg (fun x => FL (x == 0) false true (cf f)) ?_
  first | (rw [bit1 a h1 h2, show (2 : Int) ^ Int.toNat 0 = 1 from rfl, Int.ediv_one]) | exact bitAt 1 (by decide) a h1 h2 | exact bitAt 2 (by decide) a h1 h2 | exact bitAt 3 (by decide) a h1 h2 | exact bitAt 4 (by decide) a h1 h2 | exact bitAt 5 (by decide) a h1 h2 | exact bitAt 6 (by decide) a h1 h2 | exact bitAt 7 (by decide) a h1 h2
/-! ### Words -/
theorem add16_c (a b f : Int) (h1 : 0 ≤ a) (h2 : a < 65536) (h3 : 0 ≤ b) (h4 : b < 65536) (h5 : 0 ≤ f) (h6 : f < 256) (w : World) :
  Calls Tryz.prog 117 #[.int .u16 a, .int .u16 b, .int .u8 f] w fun e w' => e = .returned (.tuple #[.int .u16 ((a + b) % 65536), .int .u8 (add16F a b f)]) ∧ w = w' := by
 go_enter Tryz.func117, Tryz.ntmps117
 go_wp2_with (first | (go_at_call 114; refine (flag_c _ _ _).mono ?_; rintro e w' ⟨rfl, rfl⟩) | (go_at_call 113; refine (zero_c _ _).mono ?_; rintro e w' ⟨rfl, rfl⟩) | (go_at_call 119; refine (one_c _ _).mono ?_; rintro e w' ⟨rfl, rfl⟩) | (go_at_call 115; refine (low_c _ _).mono ?_; rintro e w' ⟨rfl, rfl⟩) | (go_at_call 120; refine (corr_c _ _ _).mono ?_; rintro e w' ⟨rfl, rfl⟩))
 go_ret2
 refine ⟨ret2 ?_ ?_, rfl⟩
 ·exact u16w _
 ·rw [and128 f h5 h6, or3, m4095 a h1 h2, m4095 b h3 h4, u16w, show (a % 4096 + b % 4096) % 65536 = a % 4096 + b % 4096 by omega]; rfl
theorem shift16_c (a e : Int) (_h1 : 0 ≤ a) (_h2 : a < 65536) (h3 : 0 ≤ e) (h4 : e < 256) (w : World) :
  Calls Tryz.prog 118 #[.int .u16 a, .int .u8 e] w fun v w' => v = .returned (.tuple #[.int .u16 (shiftR a e), .int .u8 (shiftF a e)]) ∧ w = w' := by
 go_enter Tryz.func118, Tryz.ntmps118
 go_wp2_with (go_at_call 108; refine (add_c _ _ _ (by omega) (by omega) (by omega) (by omega) _).mono ?_; rintro v w' ⟨rfl, rfl⟩)
 go_ret2
 refine ⟨ret2 ?_ ?_, rfl⟩
 ·rw [u16w, u16w, show IntKind.i8.wrap e = signed e by simp only [IntKind.wrap, IntKind.bits, IntKind.signed, signed]; simp; split <;> split <;> omega]
  unfold shiftR; omega
 ·unfold addF; rw [and48]; unfold shiftF
  simp only [fl, cond_false]
  rw [show a % 256 % 16 = a % 16 by omega]; simp
end Go.Proofs.YtngdogldgcgnjaaGreat.Alu
