/-
  The small functions of the program, each way: for every clock; no condition but that each number fits.
-/
import Derived.Test.YtkpjoongbckhcaaBase
import Derived.Test.YtkpjoongbckhcaaBits
import Derived.Deep.Cut
import Derived.BigQuiet
import Derived.WalkSmall
namespace Go.Proofs.Ytkpjoongbckhcaa
open Go.ChangeShapes Go.WideShapes Go.ChangeAt Go.RowKit
set_option linter.unusedVariables false
set_option linter.unusedSimpArgs false
set_option maxRecDepth 100000
set_option maxHeartbeats 1000000 in
theorem whole_c (n q r : Int) (h0 : 0 ≤ n) (h1 : n ≤ 2147483648) (hq : n / 1048576 = q) (hr : n % 1048576 = r) (w : World) : Calls Try.prog 20 #[.int .i64 n] w fun q_ w' => q_ = .returned (.tuple #[.int .i64 q, .int .i64 r]) ∧ w = w' := by
  have g1 : ¬ n < 0 := by omega
  have g2 : 0 ≤ q * 1048576 ∧ q * 1048576 ≤ 2147483648 := by omega
  have g3 : n - q * 1048576 = r := by omega
  have g4 := g2.1
  have g5 := g2.2
  clear g2 hr
  go_enter Try.func20, Try.ntmps20
  go_wp2
  all_goals exact bodyPost_ret (v := .tuple #[.int .i64 q, .int .i64 r]) (by simp [results, Try.results20, go_sem]) rfl ⟨rfl, rfl⟩
set_option maxHeartbeats 1000000 in
theorem count64_0 (x : Int) (hx : 0 ≤ x) (hx2 : x < 256) (w : World) : Calls Try.prog 25 #[.int .u8 x, .int .i64 0, .int .i64 64, .int .i64 60] w fun q_ w' => q_ = .returned (.tuple #[.int .u8 x, .int .i64 0]) ∧ Below w.heap.size w w' := by
  go_enter Try.func25, Try.ntmps25
  go_wp2
  all_goals exact bodyPost_ret (v := .tuple #[.int .u8 x, .int .i64 0]) (by simp [results, Try.results25, go_sem]) rfl ⟨rfl, by first | exact Below.refl _ _ | exact own1 _ _ | exact own2 _ _ _ | exact own3 _ _ _ _ | exact own4 _ _ _ _ _ | exact below_drewN (Below.refl _ _) _⟩
set_option maxHeartbeats 1000000 in
theorem count64_1 (x t b y : Int) (hx : 0 ≤ x) (hx2 : x < 256) (ht : 1 ≤ t) (ht2 : t ≤ 1099511627776) (hb : x % 64 = b) (hy : b + t = y) (g1 : 60 ≤ b) (g2 : y < 64) (w : World) : Calls Try.prog 25 #[.int .u8 x, .int .i64 t, .int .i64 64, .int .i64 60] w fun q_ w' => q_ = .returned (.tuple #[.int .u8 y, .int .i64 0]) ∧ Below w.heap.size w w' := by
  have g0 : ¬ t = 0 := by omega
  have g3 : 0 ≤ y := by omega
  go_enter Try.func25, Try.ntmps25
  go_wp2
  all_goals exact bodyPost_ret (v := .tuple #[.int .u8 y, .int .i64 0]) (by simp [results, Try.results25, go_sem]) rfl ⟨rfl, by first | exact Below.refl _ _ | exact own1 _ _ | exact own2 _ _ _ | exact own3 _ _ _ _ | exact own4 _ _ _ _ _ | exact below_drewN (Below.refl _ _) _⟩
set_option maxHeartbeats 1000000 in
theorem count64_2 (x t b y z X Y : Int) (hx : 0 ≤ x) (hx2 : x < 256) (ht : 1 ≤ t) (ht2 : t ≤ 1099511627776) (hb : x % 64 = b) (hy : b + t = y) (hz : y - 64 = z) (g1 : 60 ≤ b) (g2 : 64 ≤ y) (hX : z % 60 = X) (hY : z / 60 = Y) (w : World) : Calls Try.prog 25 #[.int .u8 x, .int .i64 t, .int .i64 64, .int .i64 60] w fun q_ w' => q_ = .returned (.tuple #[.int .u8 X, .int .i64 Y]) ∧ Below w.heap.size w w' := by
  have g0 : ¬ t = 0 := by omega
  have r1 : z.tmod 60 = X := by rw [Int.tmod_eq_emod_of_nonneg (by omega)]; exact hX
  have r2 : z.tdiv 60 = Y := by rw [Int.tdiv_eq_ediv_of_nonneg (by omega)]; exact hY
  have r3 : 0 ≤ X ∧ X < 64 := by omega
  have r4 : IntKind.u8.wrap X = X := by exact IntWalk.u8_in X (by omega)
  go_enter Try.func25, Try.ntmps25
  go_wp2
  go_quiet (fail)
  go_wp2
  all_goals exact bodyPost_ret (v := .tuple #[.int .u8 X, .int .i64 Y]) (by simp [results, Try.results25, go_sem]) rfl ⟨rfl, by first | exact Below.refl _ _ | exact own1 _ _ | exact own2 _ _ _ | exact own3 _ _ _ _ | exact own4 _ _ _ _ _ | exact below_drewN (Below.refl _ _) _⟩
set_option maxHeartbeats 1000000 in
theorem count64_3 (x t b z X Y : Int) (hx : 0 ≤ x) (hx2 : x < 256) (ht : 1 ≤ t) (ht2 : t ≤ 1099511627776) (hb : x % 64 = b) (hz : b + t = z) (g1 : b < 60) (hX : z % 60 = X) (hY : z / 60 = Y) (w : World) : Calls Try.prog 25 #[.int .u8 x, .int .i64 t, .int .i64 64, .int .i64 60] w fun q_ w' => q_ = .returned (.tuple #[.int .u8 X, .int .i64 Y]) ∧ Below w.heap.size w w' := by
  have g0 : ¬ t = 0 := by omega
  have r1 : z.tmod 60 = X := by rw [Int.tmod_eq_emod_of_nonneg (by omega)]; exact hX
  have r2 : z.tdiv 60 = Y := by rw [Int.tdiv_eq_ediv_of_nonneg (by omega)]; exact hY
  have r3 : 0 ≤ X ∧ X < 64 := by omega
  have r4 : IntKind.u8.wrap X = X := by exact IntWalk.u8_in X (by omega)
  go_enter Try.func25, Try.ntmps25
  go_wp2
  go_quiet (fail)
  go_wp2
  all_goals exact bodyPost_ret (v := .tuple #[.int .u8 X, .int .i64 Y]) (by simp [results, Try.results25, go_sem]) rfl ⟨rfl, by first | exact Below.refl _ _ | exact own1 _ _ | exact own2 _ _ _ | exact own3 _ _ _ _ | exact own4 _ _ _ _ _ | exact below_drewN (Below.refl _ _) _⟩
set_option maxHeartbeats 1000000 in
theorem count32_0 (x : Int) (hx : 0 ≤ x) (hx2 : x < 256) (w : World) : Calls Try.prog 25 #[.int .u8 x, .int .i64 0, .int .i64 32, .int .i64 24] w fun q_ w' => q_ = .returned (.tuple #[.int .u8 x, .int .i64 0]) ∧ Below w.heap.size w w' := by
  go_enter Try.func25, Try.ntmps25
  go_wp2
  all_goals exact bodyPost_ret (v := .tuple #[.int .u8 x, .int .i64 0]) (by simp [results, Try.results25, go_sem]) rfl ⟨rfl, by first | exact Below.refl _ _ | exact own1 _ _ | exact own2 _ _ _ | exact own3 _ _ _ _ | exact own4 _ _ _ _ _ | exact below_drewN (Below.refl _ _) _⟩
set_option maxHeartbeats 1000000 in
theorem count32_1 (x t b y : Int) (hx : 0 ≤ x) (hx2 : x < 256) (ht : 1 ≤ t) (ht2 : t ≤ 1099511627776) (hb : x % 32 = b) (hy : b + t = y) (g1 : 24 ≤ b) (g2 : y < 32) (w : World) : Calls Try.prog 25 #[.int .u8 x, .int .i64 t, .int .i64 32, .int .i64 24] w fun q_ w' => q_ = .returned (.tuple #[.int .u8 y, .int .i64 0]) ∧ Below w.heap.size w w' := by
  have g0 : ¬ t = 0 := by omega
  have g3 : 0 ≤ y := by omega
  go_enter Try.func25, Try.ntmps25
  go_wp2
  all_goals exact bodyPost_ret (v := .tuple #[.int .u8 y, .int .i64 0]) (by simp [results, Try.results25, go_sem]) rfl ⟨rfl, by first | exact Below.refl _ _ | exact own1 _ _ | exact own2 _ _ _ | exact own3 _ _ _ _ | exact own4 _ _ _ _ _ | exact below_drewN (Below.refl _ _) _⟩
set_option maxHeartbeats 1000000 in
theorem count32_2 (x t b y z X Y : Int) (hx : 0 ≤ x) (hx2 : x < 256) (ht : 1 ≤ t) (ht2 : t ≤ 1099511627776) (hb : x % 32 = b) (hy : b + t = y) (hz : y - 32 = z) (g1 : 24 ≤ b) (g2 : 32 ≤ y) (hX : z % 24 = X) (hY : z / 24 = Y) (w : World) : Calls Try.prog 25 #[.int .u8 x, .int .i64 t, .int .i64 32, .int .i64 24] w fun q_ w' => q_ = .returned (.tuple #[.int .u8 X, .int .i64 Y]) ∧ Below w.heap.size w w' := by
  have g0 : ¬ t = 0 := by omega
  have r1 : z.tmod 24 = X := by rw [Int.tmod_eq_emod_of_nonneg (by omega)]; exact hX
  have r2 : z.tdiv 24 = Y := by rw [Int.tdiv_eq_ediv_of_nonneg (by omega)]; exact hY
  have r3 : 0 ≤ X ∧ X < 64 := by omega
  have r4 : IntKind.u8.wrap X = X := by exact IntWalk.u8_in X (by omega)
  go_enter Try.func25, Try.ntmps25
  go_wp2
  go_quiet (fail)
  go_wp2
  all_goals exact bodyPost_ret (v := .tuple #[.int .u8 X, .int .i64 Y]) (by simp [results, Try.results25, go_sem]) rfl ⟨rfl, by first | exact Below.refl _ _ | exact own1 _ _ | exact own2 _ _ _ | exact own3 _ _ _ _ | exact own4 _ _ _ _ _ | exact below_drewN (Below.refl _ _) _⟩
set_option maxHeartbeats 1000000 in
theorem count32_3 (x t b z X Y : Int) (hx : 0 ≤ x) (hx2 : x < 256) (ht : 1 ≤ t) (ht2 : t ≤ 1099511627776) (hb : x % 32 = b) (hz : b + t = z) (g1 : b < 24) (hX : z % 24 = X) (hY : z / 24 = Y) (w : World) : Calls Try.prog 25 #[.int .u8 x, .int .i64 t, .int .i64 32, .int .i64 24] w fun q_ w' => q_ = .returned (.tuple #[.int .u8 X, .int .i64 Y]) ∧ Below w.heap.size w w' := by
  have g0 : ¬ t = 0 := by omega
  have r1 : z.tmod 24 = X := by rw [Int.tmod_eq_emod_of_nonneg (by omega)]; exact hX
  have r2 : z.tdiv 24 = Y := by rw [Int.tdiv_eq_ediv_of_nonneg (by omega)]; exact hY
  have r3 : 0 ≤ X ∧ X < 64 := by omega
  have r4 : IntKind.u8.wrap X = X := by exact IntWalk.u8_in X (by omega)
  go_enter Try.func25, Try.ntmps25
  go_wp2
  go_quiet (fail)
  go_wp2
  all_goals exact bodyPost_ret (v := .tuple #[.int .u8 X, .int .i64 Y]) (by simp [results, Try.results25, go_sem]) rfl ⟨rfl, by first | exact Below.refl _ _ | exact own1 _ _ | exact own2 _ _ _ | exact own3 _ _ _ _ | exact own4 _ _ _ _ _ | exact below_drewN (Below.refl _ _) _⟩
set_option maxHeartbeats 1000000 in
theorem pd_0 (s m h day sub : Int) (halt carry : Bool) (a b c d e : Int) (k : Int) (hk : 0 ≤ k) (hk2 : k ≤ 1099511627776) (z : Int) (hd : 0 ≤ day) (hd2 : day < 512) (hz : day + k = z) (g : z < 512) (w : World) : Calls Try.prog 26 #[.agg #[.int .u8 s, .int .u8 m, .int .u8 h, .int .i64 day, .int .i64 sub, .bool halt, .bool carry, .int .u8 a, .int .u8 b, .int .u8 c, .int .u8 d, .int .u8 e], .int .i64 k] w fun q_ w' => q_ = .returned (.agg #[.int .u8 s, .int .u8 m, .int .u8 h, .int .i64 z, .int .i64 sub, .bool halt, .bool carry, .int .u8 a, .int .u8 b, .int .u8 c, .int .u8 d, .int .u8 e]) ∧ Below w.heap.size w w' := by
  have g0 : 0 ≤ z := by omega
  go_enter Try.func26, Try.ntmps26
  go_wp2
  all_goals exact bodyPost_ret (v := .agg #[.int .u8 s, .int .u8 m, .int .u8 h, .int .i64 z, .int .i64 sub, .bool halt, .bool carry, .int .u8 a, .int .u8 b, .int .u8 c, .int .u8 d, .int .u8 e]) (by simp [results, Try.results26, go_sem]) rfl ⟨rfl, by first | exact Below.refl _ _ | exact own1 _ _ | exact own2 _ _ _ | exact own3 _ _ _ _ | exact own4 _ _ _ _ _ | exact below_drewN (Below.refl _ _) _⟩
set_option maxHeartbeats 1000000 in
theorem pd_1 (s m h day sub : Int) (halt carry : Bool) (a b c d e : Int) (k : Int) (hk : 0 ≤ k) (hk2 : k ≤ 1099511627776) (z y : Int) (hd : 0 ≤ day) (hd2 : day < 512) (hz : day + k = z) (g : 512 ≤ z) (hy : z % 512 = y) (w : World) : Calls Try.prog 26 #[.agg #[.int .u8 s, .int .u8 m, .int .u8 h, .int .i64 day, .int .i64 sub, .bool halt, .bool carry, .int .u8 a, .int .u8 b, .int .u8 c, .int .u8 d, .int .u8 e], .int .i64 k] w fun q_ w' => q_ = .returned (.agg #[.int .u8 s, .int .u8 m, .int .u8 h, .int .i64 y, .int .i64 sub, .bool halt, .bool true, .int .u8 a, .int .u8 b, .int .u8 c, .int .u8 d, .int .u8 e]) ∧ Below w.heap.size w w' := by
  have g0 : z ≤ 2199023255552 := by omega
  go_enter Try.func26, Try.ntmps26
  go_wp2
  all_goals exact bodyPost_ret (v := .agg #[.int .u8 s, .int .u8 m, .int .u8 h, .int .i64 y, .int .i64 sub, .bool halt, .bool true, .int .u8 a, .int .u8 b, .int .u8 c, .int .u8 d, .int .u8 e]) (by simp [results, Try.results26, go_sem]) rfl ⟨rfl, by first | exact Below.refl _ _ | exact own1 _ _ | exact own2 _ _ _ | exact own3 _ _ _ _ | exact own4 _ _ _ _ _ | exact below_drewN (Below.refl _ _) _⟩
set_option maxHeartbeats 1000000 in
theorem bits_0 (s m h day sub a b c d e : Int) (hd : 0 ≤ day) (hd2 : day < 512) (g : day / 256 % 2 = 1) (w : World) : Calls Try.prog 22 #[.agg #[.int .u8 s, .int .u8 m, .int .u8 h, .int .i64 day, .int .i64 sub, .bool true, .bool true, .int .u8 a, .int .u8 b, .int .u8 c, .int .u8 d, .int .u8 e]] w fun q_ w' => q_ = .returned (.int .u8 193) ∧ Below w.heap.size w w' := by
  have e1 : bits .and .i64 day 256 = 256 := (dand day hd hd2).trans (by omega)
  have o1 : bits .or .u8 0 1 = 1 := by decide +kernel
  have o2 : bits .or .u8 0 64 = 64 := by decide +kernel
  have o3 : bits .or .u8 1 64 = 65 := by decide +kernel
  have o4 : bits .or .u8 0 128 = 128 := by decide +kernel
  have o5 : bits .or .u8 1 128 = 129 := by decide +kernel
  have o6 : bits .or .u8 64 128 = 192 := by decide +kernel
  have o7 : bits .or .u8 65 128 = 193 := by decide +kernel
  clear g
  go_enter Try.func22, Try.ntmps22
  go_wp2
  all_goals exact bodyPost_ret (v := .int .u8 193) (by simp [results, Try.results22, go_sem]) rfl ⟨rfl, by first | exact Below.refl _ _ | exact own1 _ _ | exact own2 _ _ _ | exact own3 _ _ _ _ | exact own4 _ _ _ _ _ | exact below_drewN (Below.refl _ _) _⟩
set_option maxHeartbeats 1000000 in
theorem bits_1 (s m h day sub a b c d e : Int) (hd : 0 ≤ day) (hd2 : day < 512) (g : day / 256 % 2 = 1) (w : World) : Calls Try.prog 22 #[.agg #[.int .u8 s, .int .u8 m, .int .u8 h, .int .i64 day, .int .i64 sub, .bool false, .bool true, .int .u8 a, .int .u8 b, .int .u8 c, .int .u8 d, .int .u8 e]] w fun q_ w' => q_ = .returned (.int .u8 129) ∧ Below w.heap.size w w' := by
  have e1 : bits .and .i64 day 256 = 256 := (dand day hd hd2).trans (by omega)
  have o1 : bits .or .u8 0 1 = 1 := by decide +kernel
  have o2 : bits .or .u8 0 64 = 64 := by decide +kernel
  have o3 : bits .or .u8 1 64 = 65 := by decide +kernel
  have o4 : bits .or .u8 0 128 = 128 := by decide +kernel
  have o5 : bits .or .u8 1 128 = 129 := by decide +kernel
  have o6 : bits .or .u8 64 128 = 192 := by decide +kernel
  have o7 : bits .or .u8 65 128 = 193 := by decide +kernel
  clear g
  go_enter Try.func22, Try.ntmps22
  go_wp2
  all_goals exact bodyPost_ret (v := .int .u8 129) (by simp [results, Try.results22, go_sem]) rfl ⟨rfl, by first | exact Below.refl _ _ | exact own1 _ _ | exact own2 _ _ _ | exact own3 _ _ _ _ | exact own4 _ _ _ _ _ | exact below_drewN (Below.refl _ _) _⟩
set_option maxHeartbeats 1000000 in
theorem bits_2 (s m h day sub a b c d e : Int) (hd : 0 ≤ day) (hd2 : day < 512) (g : day / 256 % 2 = 1) (w : World) : Calls Try.prog 22 #[.agg #[.int .u8 s, .int .u8 m, .int .u8 h, .int .i64 day, .int .i64 sub, .bool true, .bool false, .int .u8 a, .int .u8 b, .int .u8 c, .int .u8 d, .int .u8 e]] w fun q_ w' => q_ = .returned (.int .u8 65) ∧ Below w.heap.size w w' := by
  have e1 : bits .and .i64 day 256 = 256 := (dand day hd hd2).trans (by omega)
  have o1 : bits .or .u8 0 1 = 1 := by decide +kernel
  have o2 : bits .or .u8 0 64 = 64 := by decide +kernel
  have o3 : bits .or .u8 1 64 = 65 := by decide +kernel
  have o4 : bits .or .u8 0 128 = 128 := by decide +kernel
  have o5 : bits .or .u8 1 128 = 129 := by decide +kernel
  have o6 : bits .or .u8 64 128 = 192 := by decide +kernel
  have o7 : bits .or .u8 65 128 = 193 := by decide +kernel
  clear g
  go_enter Try.func22, Try.ntmps22
  go_wp2
  all_goals exact bodyPost_ret (v := .int .u8 65) (by simp [results, Try.results22, go_sem]) rfl ⟨rfl, by first | exact Below.refl _ _ | exact own1 _ _ | exact own2 _ _ _ | exact own3 _ _ _ _ | exact own4 _ _ _ _ _ | exact below_drewN (Below.refl _ _) _⟩
set_option maxHeartbeats 1000000 in
theorem bits_3 (s m h day sub a b c d e : Int) (hd : 0 ≤ day) (hd2 : day < 512) (g : day / 256 % 2 = 1) (w : World) : Calls Try.prog 22 #[.agg #[.int .u8 s, .int .u8 m, .int .u8 h, .int .i64 day, .int .i64 sub, .bool false, .bool false, .int .u8 a, .int .u8 b, .int .u8 c, .int .u8 d, .int .u8 e]] w fun q_ w' => q_ = .returned (.int .u8 1) ∧ Below w.heap.size w w' := by
  have e1 : bits .and .i64 day 256 = 256 := (dand day hd hd2).trans (by omega)
  have o1 : bits .or .u8 0 1 = 1 := by decide +kernel
  have o2 : bits .or .u8 0 64 = 64 := by decide +kernel
  have o3 : bits .or .u8 1 64 = 65 := by decide +kernel
  have o4 : bits .or .u8 0 128 = 128 := by decide +kernel
  have o5 : bits .or .u8 1 128 = 129 := by decide +kernel
  have o6 : bits .or .u8 64 128 = 192 := by decide +kernel
  have o7 : bits .or .u8 65 128 = 193 := by decide +kernel
  clear g
  go_enter Try.func22, Try.ntmps22
  go_wp2
  all_goals exact bodyPost_ret (v := .int .u8 1) (by simp [results, Try.results22, go_sem]) rfl ⟨rfl, by first | exact Below.refl _ _ | exact own1 _ _ | exact own2 _ _ _ | exact own3 _ _ _ _ | exact own4 _ _ _ _ _ | exact below_drewN (Below.refl _ _) _⟩
set_option maxHeartbeats 1000000 in
theorem bits_4 (s m h day sub a b c d e : Int) (hd : 0 ≤ day) (hd2 : day < 512) (g : day / 256 % 2 = 0) (w : World) : Calls Try.prog 22 #[.agg #[.int .u8 s, .int .u8 m, .int .u8 h, .int .i64 day, .int .i64 sub, .bool true, .bool true, .int .u8 a, .int .u8 b, .int .u8 c, .int .u8 d, .int .u8 e]] w fun q_ w' => q_ = .returned (.int .u8 192) ∧ Below w.heap.size w w' := by
  have e1 : bits .and .i64 day 256 = 0 := (dand day hd hd2).trans (by omega)
  have o1 : bits .or .u8 0 1 = 1 := by decide +kernel
  have o2 : bits .or .u8 0 64 = 64 := by decide +kernel
  have o3 : bits .or .u8 1 64 = 65 := by decide +kernel
  have o4 : bits .or .u8 0 128 = 128 := by decide +kernel
  have o5 : bits .or .u8 1 128 = 129 := by decide +kernel
  have o6 : bits .or .u8 64 128 = 192 := by decide +kernel
  have o7 : bits .or .u8 65 128 = 193 := by decide +kernel
  clear g
  go_enter Try.func22, Try.ntmps22
  go_wp2
  all_goals exact bodyPost_ret (v := .int .u8 192) (by simp [results, Try.results22, go_sem]) rfl ⟨rfl, by first | exact Below.refl _ _ | exact own1 _ _ | exact own2 _ _ _ | exact own3 _ _ _ _ | exact own4 _ _ _ _ _ | exact below_drewN (Below.refl _ _) _⟩
set_option maxHeartbeats 1000000 in
theorem bits_5 (s m h day sub a b c d e : Int) (hd : 0 ≤ day) (hd2 : day < 512) (g : day / 256 % 2 = 0) (w : World) : Calls Try.prog 22 #[.agg #[.int .u8 s, .int .u8 m, .int .u8 h, .int .i64 day, .int .i64 sub, .bool false, .bool true, .int .u8 a, .int .u8 b, .int .u8 c, .int .u8 d, .int .u8 e]] w fun q_ w' => q_ = .returned (.int .u8 128) ∧ Below w.heap.size w w' := by
  have e1 : bits .and .i64 day 256 = 0 := (dand day hd hd2).trans (by omega)
  have o1 : bits .or .u8 0 1 = 1 := by decide +kernel
  have o2 : bits .or .u8 0 64 = 64 := by decide +kernel
  have o3 : bits .or .u8 1 64 = 65 := by decide +kernel
  have o4 : bits .or .u8 0 128 = 128 := by decide +kernel
  have o5 : bits .or .u8 1 128 = 129 := by decide +kernel
  have o6 : bits .or .u8 64 128 = 192 := by decide +kernel
  have o7 : bits .or .u8 65 128 = 193 := by decide +kernel
  clear g
  go_enter Try.func22, Try.ntmps22
  go_wp2
  all_goals exact bodyPost_ret (v := .int .u8 128) (by simp [results, Try.results22, go_sem]) rfl ⟨rfl, by first | exact Below.refl _ _ | exact own1 _ _ | exact own2 _ _ _ | exact own3 _ _ _ _ | exact own4 _ _ _ _ _ | exact below_drewN (Below.refl _ _) _⟩
set_option maxHeartbeats 1000000 in
theorem bits_6 (s m h day sub a b c d e : Int) (hd : 0 ≤ day) (hd2 : day < 512) (g : day / 256 % 2 = 0) (w : World) : Calls Try.prog 22 #[.agg #[.int .u8 s, .int .u8 m, .int .u8 h, .int .i64 day, .int .i64 sub, .bool true, .bool false, .int .u8 a, .int .u8 b, .int .u8 c, .int .u8 d, .int .u8 e]] w fun q_ w' => q_ = .returned (.int .u8 64) ∧ Below w.heap.size w w' := by
  have e1 : bits .and .i64 day 256 = 0 := (dand day hd hd2).trans (by omega)
  have o1 : bits .or .u8 0 1 = 1 := by decide +kernel
  have o2 : bits .or .u8 0 64 = 64 := by decide +kernel
  have o3 : bits .or .u8 1 64 = 65 := by decide +kernel
  have o4 : bits .or .u8 0 128 = 128 := by decide +kernel
  have o5 : bits .or .u8 1 128 = 129 := by decide +kernel
  have o6 : bits .or .u8 64 128 = 192 := by decide +kernel
  have o7 : bits .or .u8 65 128 = 193 := by decide +kernel
  clear g
  go_enter Try.func22, Try.ntmps22
  go_wp2
  all_goals exact bodyPost_ret (v := .int .u8 64) (by simp [results, Try.results22, go_sem]) rfl ⟨rfl, by first | exact Below.refl _ _ | exact own1 _ _ | exact own2 _ _ _ | exact own3 _ _ _ _ | exact own4 _ _ _ _ _ | exact below_drewN (Below.refl _ _) _⟩
set_option maxHeartbeats 1000000 in
theorem bits_7 (s m h day sub a b c d e : Int) (hd : 0 ≤ day) (hd2 : day < 512) (g : day / 256 % 2 = 0) (w : World) : Calls Try.prog 22 #[.agg #[.int .u8 s, .int .u8 m, .int .u8 h, .int .i64 day, .int .i64 sub, .bool false, .bool false, .int .u8 a, .int .u8 b, .int .u8 c, .int .u8 d, .int .u8 e]] w fun q_ w' => q_ = .returned (.int .u8 0) ∧ Below w.heap.size w w' := by
  have e1 : bits .and .i64 day 256 = 0 := (dand day hd hd2).trans (by omega)
  have o1 : bits .or .u8 0 1 = 1 := by decide +kernel
  have o2 : bits .or .u8 0 64 = 64 := by decide +kernel
  have o3 : bits .or .u8 1 64 = 65 := by decide +kernel
  have o4 : bits .or .u8 0 128 = 128 := by decide +kernel
  have o5 : bits .or .u8 1 128 = 129 := by decide +kernel
  have o6 : bits .or .u8 64 128 = 192 := by decide +kernel
  have o7 : bits .or .u8 65 128 = 193 := by decide +kernel
  clear g
  go_enter Try.func22, Try.ntmps22
  go_wp2
  all_goals exact bodyPost_ret (v := .int .u8 0) (by simp [results, Try.results22, go_sem]) rfl ⟨rfl, by first | exact Below.refl _ _ | exact own1 _ _ | exact own2 _ _ _ | exact own3 _ _ _ _ | exact own4 _ _ _ _ _ | exact below_drewN (Below.refl _ _) _⟩
set_option maxHeartbeats 1000000 in
theorem read_0 (s m h day sub : Int) (halt carry : Bool) (a b c d e : Int) (w : World) : Calls Try.prog 12 #[.agg #[.int .u8 s, .int .u8 m, .int .u8 h, .int .i64 day, .int .i64 sub, .bool halt, .bool carry, .int .u8 a, .int .u8 b, .int .u8 c, .int .u8 d, .int .u8 e], .int .i64 0] w fun q_ w' => q_ = .returned (.int .u8 a) ∧ Below w.heap.size w w' := by
  go_enter Try.func12, Try.ntmps12
  go_wp2
  all_goals exact bodyPost_ret (v := .int .u8 a) (by simp [results, Try.results12, go_sem]) rfl ⟨rfl, by first | exact Below.refl _ _ | exact own1 _ _ | exact own2 _ _ _ | exact own3 _ _ _ _ | exact own4 _ _ _ _ _ | exact below_drewN (Below.refl _ _) _⟩
set_option maxHeartbeats 1000000 in
theorem read_1 (s m h day sub : Int) (halt carry : Bool) (a b c d e : Int) (w : World) : Calls Try.prog 12 #[.agg #[.int .u8 s, .int .u8 m, .int .u8 h, .int .i64 day, .int .i64 sub, .bool halt, .bool carry, .int .u8 a, .int .u8 b, .int .u8 c, .int .u8 d, .int .u8 e], .int .i64 1] w fun q_ w' => q_ = .returned (.int .u8 b) ∧ Below w.heap.size w w' := by
  go_enter Try.func12, Try.ntmps12
  go_wp2
  all_goals exact bodyPost_ret (v := .int .u8 b) (by simp [results, Try.results12, go_sem]) rfl ⟨rfl, by first | exact Below.refl _ _ | exact own1 _ _ | exact own2 _ _ _ | exact own3 _ _ _ _ | exact own4 _ _ _ _ _ | exact below_drewN (Below.refl _ _) _⟩
set_option maxHeartbeats 1000000 in
theorem read_2 (s m h day sub : Int) (halt carry : Bool) (a b c d e : Int) (w : World) : Calls Try.prog 12 #[.agg #[.int .u8 s, .int .u8 m, .int .u8 h, .int .i64 day, .int .i64 sub, .bool halt, .bool carry, .int .u8 a, .int .u8 b, .int .u8 c, .int .u8 d, .int .u8 e], .int .i64 2] w fun q_ w' => q_ = .returned (.int .u8 c) ∧ Below w.heap.size w w' := by
  go_enter Try.func12, Try.ntmps12
  go_wp2
  all_goals exact bodyPost_ret (v := .int .u8 c) (by simp [results, Try.results12, go_sem]) rfl ⟨rfl, by first | exact Below.refl _ _ | exact own1 _ _ | exact own2 _ _ _ | exact own3 _ _ _ _ | exact own4 _ _ _ _ _ | exact below_drewN (Below.refl _ _) _⟩
set_option maxHeartbeats 1000000 in
theorem read_3 (s m h day sub : Int) (halt carry : Bool) (a b c d e : Int) (w : World) : Calls Try.prog 12 #[.agg #[.int .u8 s, .int .u8 m, .int .u8 h, .int .i64 day, .int .i64 sub, .bool halt, .bool carry, .int .u8 a, .int .u8 b, .int .u8 c, .int .u8 d, .int .u8 e], .int .i64 3] w fun q_ w' => q_ = .returned (.int .u8 d) ∧ Below w.heap.size w w' := by
  go_enter Try.func12, Try.ntmps12
  go_wp2
  all_goals exact bodyPost_ret (v := .int .u8 d) (by simp [results, Try.results12, go_sem]) rfl ⟨rfl, by first | exact Below.refl _ _ | exact own1 _ _ | exact own2 _ _ _ | exact own3 _ _ _ _ | exact own4 _ _ _ _ _ | exact below_drewN (Below.refl _ _) _⟩
set_option maxHeartbeats 1000000 in
theorem read_4 (s m h day sub : Int) (halt carry : Bool) (a b c d e : Int) (w : World) : Calls Try.prog 12 #[.agg #[.int .u8 s, .int .u8 m, .int .u8 h, .int .i64 day, .int .i64 sub, .bool halt, .bool carry, .int .u8 a, .int .u8 b, .int .u8 c, .int .u8 d, .int .u8 e], .int .i64 4] w fun q_ w' => q_ = .returned (.int .u8 e) ∧ Below w.heap.size w w' := by
  go_enter Try.func12, Try.ntmps12
  go_wp2
  all_goals exact bodyPost_ret (v := .int .u8 e) (by simp [results, Try.results12, go_sem]) rfl ⟨rfl, by first | exact Below.refl _ _ | exact own1 _ _ | exact own2 _ _ _ | exact own3 _ _ _ _ | exact own4 _ _ _ _ _ | exact below_drewN (Below.refl _ _) _⟩
set_option maxHeartbeats 1000000 in
theorem read_5 (s m h day sub : Int) (halt carry : Bool) (a b c d e : Int) (n : Int) (g : n < 0) (w : World) : Calls Try.prog 12 #[.agg #[.int .u8 s, .int .u8 m, .int .u8 h, .int .i64 day, .int .i64 sub, .bool halt, .bool carry, .int .u8 a, .int .u8 b, .int .u8 c, .int .u8 d, .int .u8 e], .int .i64 n] w fun q_ w' => q_ = .returned (.int .u8 0) ∧ Below w.heap.size w w' := by
  go_enter Try.func12, Try.ntmps12
  go_wp2
  all_goals exact bodyPost_ret (v := .int .u8 0) (by simp [results, Try.results12, go_sem]) rfl ⟨rfl, by first | exact Below.refl _ _ | exact own1 _ _ | exact own2 _ _ _ | exact own3 _ _ _ _ | exact own4 _ _ _ _ _ | exact below_drewN (Below.refl _ _) _⟩
set_option maxHeartbeats 1000000 in
theorem read_6 (s m h day sub : Int) (halt carry : Bool) (a b c d e : Int) (n : Int) (g : 5 ≤ n) (w : World) : Calls Try.prog 12 #[.agg #[.int .u8 s, .int .u8 m, .int .u8 h, .int .i64 day, .int .i64 sub, .bool halt, .bool carry, .int .u8 a, .int .u8 b, .int .u8 c, .int .u8 d, .int .u8 e], .int .i64 n] w fun q_ w' => q_ = .returned (.int .u8 0) ∧ Below w.heap.size w w' := by
  have g0 : ¬ n < 0 := by omega
  go_enter Try.func12, Try.ntmps12
  go_wp2
  all_goals exact bodyPost_ret (v := .int .u8 0) (by simp [results, Try.results12, go_sem]) rfl ⟨rfl, by first | exact Below.refl _ _ | exact own1 _ _ | exact own2 _ _ _ | exact own3 _ _ _ _ | exact own4 _ _ _ _ _ | exact below_drewN (Below.refl _ _) _⟩
set_option maxHeartbeats 1000000 in
theorem write_0 (s m h day sub : Int) (halt carry : Bool) (a b c d e : Int) (x : Int) (hx : 0 ≤ x) (hx2 : x < 256) (w : World) : Calls Try.prog 15 #[.agg #[.int .u8 s, .int .u8 m, .int .u8 h, .int .i64 day, .int .i64 sub, .bool halt, .bool carry, .int .u8 a, .int .u8 b, .int .u8 c, .int .u8 d, .int .u8 e], .int .i64 0, .int .u8 x] w fun q_ w' => q_ = .returned (.agg #[.int .u8 (x % 64), .int .u8 m, .int .u8 h, .int .i64 day, .int .i64 0, .bool halt, .bool carry, .int .u8 a, .int .u8 b, .int .u8 c, .int .u8 d, .int .u8 e]) ∧ Below w.heap.size w w' := by
  have e1 := and63 x hx hx2
  go_enter Try.func15, Try.ntmps15
  go_wp2
  all_goals exact bodyPost_ret (v := .agg #[.int .u8 (x % 64), .int .u8 m, .int .u8 h, .int .i64 day, .int .i64 0, .bool halt, .bool carry, .int .u8 a, .int .u8 b, .int .u8 c, .int .u8 d, .int .u8 e]) (by simp [results, Try.results15, go_sem]) rfl ⟨rfl, by first | exact Below.refl _ _ | exact own1 _ _ | exact own2 _ _ _ | exact own3 _ _ _ _ | exact own4 _ _ _ _ _ | exact below_drewN (Below.refl _ _) _⟩
set_option maxHeartbeats 1000000 in
theorem write_1 (s m h day sub : Int) (halt carry : Bool) (a b c d e : Int) (x : Int) (hx : 0 ≤ x) (hx2 : x < 256) (w : World) : Calls Try.prog 15 #[.agg #[.int .u8 s, .int .u8 m, .int .u8 h, .int .i64 day, .int .i64 sub, .bool halt, .bool carry, .int .u8 a, .int .u8 b, .int .u8 c, .int .u8 d, .int .u8 e], .int .i64 1, .int .u8 x] w fun q_ w' => q_ = .returned (.agg #[.int .u8 s, .int .u8 (x % 64), .int .u8 h, .int .i64 day, .int .i64 sub, .bool halt, .bool carry, .int .u8 a, .int .u8 b, .int .u8 c, .int .u8 d, .int .u8 e]) ∧ Below w.heap.size w w' := by
  have e1 := and63 x hx hx2
  go_enter Try.func15, Try.ntmps15
  go_wp2
  all_goals exact bodyPost_ret (v := .agg #[.int .u8 s, .int .u8 (x % 64), .int .u8 h, .int .i64 day, .int .i64 sub, .bool halt, .bool carry, .int .u8 a, .int .u8 b, .int .u8 c, .int .u8 d, .int .u8 e]) (by simp [results, Try.results15, go_sem]) rfl ⟨rfl, by first | exact Below.refl _ _ | exact own1 _ _ | exact own2 _ _ _ | exact own3 _ _ _ _ | exact own4 _ _ _ _ _ | exact below_drewN (Below.refl _ _) _⟩
set_option maxHeartbeats 1000000 in
theorem write_2 (s m h day sub : Int) (halt carry : Bool) (a b c d e : Int) (x : Int) (hx : 0 ≤ x) (hx2 : x < 256) (w : World) : Calls Try.prog 15 #[.agg #[.int .u8 s, .int .u8 m, .int .u8 h, .int .i64 day, .int .i64 sub, .bool halt, .bool carry, .int .u8 a, .int .u8 b, .int .u8 c, .int .u8 d, .int .u8 e], .int .i64 2, .int .u8 x] w fun q_ w' => q_ = .returned (.agg #[.int .u8 s, .int .u8 m, .int .u8 (x % 32), .int .i64 day, .int .i64 sub, .bool halt, .bool carry, .int .u8 a, .int .u8 b, .int .u8 c, .int .u8 d, .int .u8 e]) ∧ Below w.heap.size w w' := by
  have e1 := and31 x hx hx2
  go_enter Try.func15, Try.ntmps15
  go_wp2
  all_goals exact bodyPost_ret (v := .agg #[.int .u8 s, .int .u8 m, .int .u8 (x % 32), .int .i64 day, .int .i64 sub, .bool halt, .bool carry, .int .u8 a, .int .u8 b, .int .u8 c, .int .u8 d, .int .u8 e]) (by simp [results, Try.results15, go_sem]) rfl ⟨rfl, by first | exact Below.refl _ _ | exact own1 _ _ | exact own2 _ _ _ | exact own3 _ _ _ _ | exact own4 _ _ _ _ _ | exact below_drewN (Below.refl _ _) _⟩
set_option maxHeartbeats 1000000 in
theorem write_3 (s m h day sub : Int) (halt carry : Bool) (a b c d e : Int) (x : Int) (hx : 0 ≤ x) (hx2 : x < 256) (z : Int) (hd : 0 ≤ day) (hd2 : day < 512) (hz : day / 256 * 256 + x = z) (w : World) : Calls Try.prog 15 #[.agg #[.int .u8 s, .int .u8 m, .int .u8 h, .int .i64 day, .int .i64 sub, .bool halt, .bool carry, .int .u8 a, .int .u8 b, .int .u8 c, .int .u8 d, .int .u8 e], .int .i64 3, .int .u8 x] w fun q_ w' => q_ = .returned (.agg #[.int .u8 s, .int .u8 m, .int .u8 h, .int .i64 z, .int .i64 sub, .bool halt, .bool carry, .int .u8 a, .int .u8 b, .int .u8 c, .int .u8 d, .int .u8 e]) ∧ Below w.heap.size w w' := by
  have e1 := dlo day hd hd2
  have e2 : bits .or .i64 (day / 256 * 256) x = z := (dor (day / 256) x (by omega) (by omega) hx hx2).trans hz
  go_enter Try.func15, Try.ntmps15
  go_wp2
  all_goals exact bodyPost_ret (v := .agg #[.int .u8 s, .int .u8 m, .int .u8 h, .int .i64 z, .int .i64 sub, .bool halt, .bool carry, .int .u8 a, .int .u8 b, .int .u8 c, .int .u8 d, .int .u8 e]) (by simp [results, Try.results15, go_sem]) rfl ⟨rfl, by first | exact Below.refl _ _ | exact own1 _ _ | exact own2 _ _ _ | exact own3 _ _ _ _ | exact own4 _ _ _ _ _ | exact below_drewN (Below.refl _ _) _⟩
set_option maxHeartbeats 1000000 in
theorem write_4_0 (s m h day sub : Int) (halt carry : Bool) (a b c d e : Int) (x : Int) (hx : 0 ≤ x) (hx2 : x < 256) (y z : Int) (hd : 0 ≤ day) (hd2 : day < 512) (hy : day % 256 = y) (g1 : x % 2 = 0) (g2 : x / 64 % 2 = 0) (g3 : x / 128 = 0) (hz : 0 + y = z) (w : World) : Calls Try.prog 15 #[.agg #[.int .u8 s, .int .u8 m, .int .u8 h, .int .i64 day, .int .i64 sub, .bool halt, .bool carry, .int .u8 a, .int .u8 b, .int .u8 c, .int .u8 d, .int .u8 e], .int .i64 4, .int .u8 x] w fun q_ w' => q_ = .returned (.agg #[.int .u8 s, .int .u8 m, .int .u8 h, .int .i64 y, .int .i64 sub, .bool false, .bool false, .int .u8 a, .int .u8 b, .int .u8 c, .int .u8 d, .int .u8 e]) ∧ Below w.heap.size w w' := by
  have e1 : bits .andNot .i64 day 256 = y := (dhi day hd hd2).trans hy
  have e2 : bits .or .i64 y 256 = y + 256 := dor2 y (by omega) (by omega)
  have e3 : bits .and .u8 x 1 = 0 := (and1 x hx hx2).trans (by omega)
  have e4 : bits .and .u8 x 64 = 0 := (and64 x hx hx2).trans (by omega)
  have e5 : bits .and .u8 x 128 = 0 := (and128 x hx hx2).trans (by omega)
  clear g1 g2 g3 hz
  go_enter Try.func15, Try.ntmps15
  go_wp2
  all_goals exact bodyPost_ret (v := .agg #[.int .u8 s, .int .u8 m, .int .u8 h, .int .i64 y, .int .i64 sub, .bool false, .bool false, .int .u8 a, .int .u8 b, .int .u8 c, .int .u8 d, .int .u8 e]) (by simp [results, Try.results15, go_sem]) rfl ⟨rfl, by first | exact Below.refl _ _ | exact own1 _ _ | exact own2 _ _ _ | exact own3 _ _ _ _ | exact own4 _ _ _ _ _ | exact below_drewN (Below.refl _ _) _⟩
set_option maxHeartbeats 1000000 in
theorem write_4_1 (s m h day sub : Int) (halt carry : Bool) (a b c d e : Int) (x : Int) (hx : 0 ≤ x) (hx2 : x < 256) (y z : Int) (hd : 0 ≤ day) (hd2 : day < 512) (hy : day % 256 = y) (g1 : x % 2 = 1) (g2 : x / 64 % 2 = 0) (g3 : x / 128 = 0) (hz : 256 + y = z) (w : World) : Calls Try.prog 15 #[.agg #[.int .u8 s, .int .u8 m, .int .u8 h, .int .i64 day, .int .i64 sub, .bool halt, .bool carry, .int .u8 a, .int .u8 b, .int .u8 c, .int .u8 d, .int .u8 e], .int .i64 4, .int .u8 x] w fun q_ w' => q_ = .returned (.agg #[.int .u8 s, .int .u8 m, .int .u8 h, .int .i64 z, .int .i64 sub, .bool false, .bool false, .int .u8 a, .int .u8 b, .int .u8 c, .int .u8 d, .int .u8 e]) ∧ Below w.heap.size w w' := by
  have e1 : bits .andNot .i64 day 256 = y := (dhi day hd hd2).trans hy
  have e2 : bits .or .i64 y 256 = y + 256 := dor2 y (by omega) (by omega)
  have e3 : bits .and .u8 x 1 = 1 := (and1 x hx hx2).trans (by omega)
  have e4 : bits .and .u8 x 64 = 0 := (and64 x hx hx2).trans (by omega)
  have e5 : bits .and .u8 x 128 = 0 := (and128 x hx hx2).trans (by omega)
  have e6 : y + 256 = z := by omega
  clear g1 g2 g3 hz
  go_enter Try.func15, Try.ntmps15
  go_wp2
  all_goals exact bodyPost_ret (v := .agg #[.int .u8 s, .int .u8 m, .int .u8 h, .int .i64 z, .int .i64 sub, .bool false, .bool false, .int .u8 a, .int .u8 b, .int .u8 c, .int .u8 d, .int .u8 e]) (by simp [results, Try.results15, go_sem]) rfl ⟨rfl, by first | exact Below.refl _ _ | exact own1 _ _ | exact own2 _ _ _ | exact own3 _ _ _ _ | exact own4 _ _ _ _ _ | exact below_drewN (Below.refl _ _) _⟩
set_option maxHeartbeats 1000000 in
theorem write_4_2 (s m h day sub : Int) (halt carry : Bool) (a b c d e : Int) (x : Int) (hx : 0 ≤ x) (hx2 : x < 256) (y z : Int) (hd : 0 ≤ day) (hd2 : day < 512) (hy : day % 256 = y) (g1 : x % 2 = 0) (g2 : x / 64 % 2 = 1) (g3 : x / 128 = 0) (hz : 0 + y = z) (w : World) : Calls Try.prog 15 #[.agg #[.int .u8 s, .int .u8 m, .int .u8 h, .int .i64 day, .int .i64 sub, .bool halt, .bool carry, .int .u8 a, .int .u8 b, .int .u8 c, .int .u8 d, .int .u8 e], .int .i64 4, .int .u8 x] w fun q_ w' => q_ = .returned (.agg #[.int .u8 s, .int .u8 m, .int .u8 h, .int .i64 y, .int .i64 sub, .bool true, .bool false, .int .u8 a, .int .u8 b, .int .u8 c, .int .u8 d, .int .u8 e]) ∧ Below w.heap.size w w' := by
  have e1 : bits .andNot .i64 day 256 = y := (dhi day hd hd2).trans hy
  have e2 : bits .or .i64 y 256 = y + 256 := dor2 y (by omega) (by omega)
  have e3 : bits .and .u8 x 1 = 0 := (and1 x hx hx2).trans (by omega)
  have e4 : bits .and .u8 x 64 = 64 := (and64 x hx hx2).trans (by omega)
  have e5 : bits .and .u8 x 128 = 0 := (and128 x hx hx2).trans (by omega)
  clear g1 g2 g3 hz
  go_enter Try.func15, Try.ntmps15
  go_wp2
  all_goals exact bodyPost_ret (v := .agg #[.int .u8 s, .int .u8 m, .int .u8 h, .int .i64 y, .int .i64 sub, .bool true, .bool false, .int .u8 a, .int .u8 b, .int .u8 c, .int .u8 d, .int .u8 e]) (by simp [results, Try.results15, go_sem]) rfl ⟨rfl, by first | exact Below.refl _ _ | exact own1 _ _ | exact own2 _ _ _ | exact own3 _ _ _ _ | exact own4 _ _ _ _ _ | exact below_drewN (Below.refl _ _) _⟩
set_option maxHeartbeats 1000000 in
theorem write_4_3 (s m h day sub : Int) (halt carry : Bool) (a b c d e : Int) (x : Int) (hx : 0 ≤ x) (hx2 : x < 256) (y z : Int) (hd : 0 ≤ day) (hd2 : day < 512) (hy : day % 256 = y) (g1 : x % 2 = 1) (g2 : x / 64 % 2 = 1) (g3 : x / 128 = 0) (hz : 256 + y = z) (w : World) : Calls Try.prog 15 #[.agg #[.int .u8 s, .int .u8 m, .int .u8 h, .int .i64 day, .int .i64 sub, .bool halt, .bool carry, .int .u8 a, .int .u8 b, .int .u8 c, .int .u8 d, .int .u8 e], .int .i64 4, .int .u8 x] w fun q_ w' => q_ = .returned (.agg #[.int .u8 s, .int .u8 m, .int .u8 h, .int .i64 z, .int .i64 sub, .bool true, .bool false, .int .u8 a, .int .u8 b, .int .u8 c, .int .u8 d, .int .u8 e]) ∧ Below w.heap.size w w' := by
  have e1 : bits .andNot .i64 day 256 = y := (dhi day hd hd2).trans hy
  have e2 : bits .or .i64 y 256 = y + 256 := dor2 y (by omega) (by omega)
  have e3 : bits .and .u8 x 1 = 1 := (and1 x hx hx2).trans (by omega)
  have e4 : bits .and .u8 x 64 = 64 := (and64 x hx hx2).trans (by omega)
  have e5 : bits .and .u8 x 128 = 0 := (and128 x hx hx2).trans (by omega)
  have e6 : y + 256 = z := by omega
  clear g1 g2 g3 hz
  go_enter Try.func15, Try.ntmps15
  go_wp2
  all_goals exact bodyPost_ret (v := .agg #[.int .u8 s, .int .u8 m, .int .u8 h, .int .i64 z, .int .i64 sub, .bool true, .bool false, .int .u8 a, .int .u8 b, .int .u8 c, .int .u8 d, .int .u8 e]) (by simp [results, Try.results15, go_sem]) rfl ⟨rfl, by first | exact Below.refl _ _ | exact own1 _ _ | exact own2 _ _ _ | exact own3 _ _ _ _ | exact own4 _ _ _ _ _ | exact below_drewN (Below.refl _ _) _⟩
set_option maxHeartbeats 1000000 in
theorem write_4_4 (s m h day sub : Int) (halt carry : Bool) (a b c d e : Int) (x : Int) (hx : 0 ≤ x) (hx2 : x < 256) (y z : Int) (hd : 0 ≤ day) (hd2 : day < 512) (hy : day % 256 = y) (g1 : x % 2 = 0) (g2 : x / 64 % 2 = 0) (g3 : x / 128 = 1) (hz : 0 + y = z) (w : World) : Calls Try.prog 15 #[.agg #[.int .u8 s, .int .u8 m, .int .u8 h, .int .i64 day, .int .i64 sub, .bool halt, .bool carry, .int .u8 a, .int .u8 b, .int .u8 c, .int .u8 d, .int .u8 e], .int .i64 4, .int .u8 x] w fun q_ w' => q_ = .returned (.agg #[.int .u8 s, .int .u8 m, .int .u8 h, .int .i64 y, .int .i64 sub, .bool false, .bool true, .int .u8 a, .int .u8 b, .int .u8 c, .int .u8 d, .int .u8 e]) ∧ Below w.heap.size w w' := by
  have e1 : bits .andNot .i64 day 256 = y := (dhi day hd hd2).trans hy
  have e2 : bits .or .i64 y 256 = y + 256 := dor2 y (by omega) (by omega)
  have e3 : bits .and .u8 x 1 = 0 := (and1 x hx hx2).trans (by omega)
  have e4 : bits .and .u8 x 64 = 0 := (and64 x hx hx2).trans (by omega)
  have e5 : bits .and .u8 x 128 = 128 := (and128 x hx hx2).trans (by omega)
  clear g1 g2 g3 hz
  go_enter Try.func15, Try.ntmps15
  go_wp2
  all_goals exact bodyPost_ret (v := .agg #[.int .u8 s, .int .u8 m, .int .u8 h, .int .i64 y, .int .i64 sub, .bool false, .bool true, .int .u8 a, .int .u8 b, .int .u8 c, .int .u8 d, .int .u8 e]) (by simp [results, Try.results15, go_sem]) rfl ⟨rfl, by first | exact Below.refl _ _ | exact own1 _ _ | exact own2 _ _ _ | exact own3 _ _ _ _ | exact own4 _ _ _ _ _ | exact below_drewN (Below.refl _ _) _⟩
set_option maxHeartbeats 1000000 in
theorem write_4_5 (s m h day sub : Int) (halt carry : Bool) (a b c d e : Int) (x : Int) (hx : 0 ≤ x) (hx2 : x < 256) (y z : Int) (hd : 0 ≤ day) (hd2 : day < 512) (hy : day % 256 = y) (g1 : x % 2 = 1) (g2 : x / 64 % 2 = 0) (g3 : x / 128 = 1) (hz : 256 + y = z) (w : World) : Calls Try.prog 15 #[.agg #[.int .u8 s, .int .u8 m, .int .u8 h, .int .i64 day, .int .i64 sub, .bool halt, .bool carry, .int .u8 a, .int .u8 b, .int .u8 c, .int .u8 d, .int .u8 e], .int .i64 4, .int .u8 x] w fun q_ w' => q_ = .returned (.agg #[.int .u8 s, .int .u8 m, .int .u8 h, .int .i64 z, .int .i64 sub, .bool false, .bool true, .int .u8 a, .int .u8 b, .int .u8 c, .int .u8 d, .int .u8 e]) ∧ Below w.heap.size w w' := by
  have e1 : bits .andNot .i64 day 256 = y := (dhi day hd hd2).trans hy
  have e2 : bits .or .i64 y 256 = y + 256 := dor2 y (by omega) (by omega)
  have e3 : bits .and .u8 x 1 = 1 := (and1 x hx hx2).trans (by omega)
  have e4 : bits .and .u8 x 64 = 0 := (and64 x hx hx2).trans (by omega)
  have e5 : bits .and .u8 x 128 = 128 := (and128 x hx hx2).trans (by omega)
  have e6 : y + 256 = z := by omega
  clear g1 g2 g3 hz
  go_enter Try.func15, Try.ntmps15
  go_wp2
  all_goals exact bodyPost_ret (v := .agg #[.int .u8 s, .int .u8 m, .int .u8 h, .int .i64 z, .int .i64 sub, .bool false, .bool true, .int .u8 a, .int .u8 b, .int .u8 c, .int .u8 d, .int .u8 e]) (by simp [results, Try.results15, go_sem]) rfl ⟨rfl, by first | exact Below.refl _ _ | exact own1 _ _ | exact own2 _ _ _ | exact own3 _ _ _ _ | exact own4 _ _ _ _ _ | exact below_drewN (Below.refl _ _) _⟩
set_option maxHeartbeats 1000000 in
theorem write_4_6 (s m h day sub : Int) (halt carry : Bool) (a b c d e : Int) (x : Int) (hx : 0 ≤ x) (hx2 : x < 256) (y z : Int) (hd : 0 ≤ day) (hd2 : day < 512) (hy : day % 256 = y) (g1 : x % 2 = 0) (g2 : x / 64 % 2 = 1) (g3 : x / 128 = 1) (hz : 0 + y = z) (w : World) : Calls Try.prog 15 #[.agg #[.int .u8 s, .int .u8 m, .int .u8 h, .int .i64 day, .int .i64 sub, .bool halt, .bool carry, .int .u8 a, .int .u8 b, .int .u8 c, .int .u8 d, .int .u8 e], .int .i64 4, .int .u8 x] w fun q_ w' => q_ = .returned (.agg #[.int .u8 s, .int .u8 m, .int .u8 h, .int .i64 y, .int .i64 sub, .bool true, .bool true, .int .u8 a, .int .u8 b, .int .u8 c, .int .u8 d, .int .u8 e]) ∧ Below w.heap.size w w' := by
  have e1 : bits .andNot .i64 day 256 = y := (dhi day hd hd2).trans hy
  have e2 : bits .or .i64 y 256 = y + 256 := dor2 y (by omega) (by omega)
  have e3 : bits .and .u8 x 1 = 0 := (and1 x hx hx2).trans (by omega)
  have e4 : bits .and .u8 x 64 = 64 := (and64 x hx hx2).trans (by omega)
  have e5 : bits .and .u8 x 128 = 128 := (and128 x hx hx2).trans (by omega)
  clear g1 g2 g3 hz
  go_enter Try.func15, Try.ntmps15
  go_wp2
  all_goals exact bodyPost_ret (v := .agg #[.int .u8 s, .int .u8 m, .int .u8 h, .int .i64 y, .int .i64 sub, .bool true, .bool true, .int .u8 a, .int .u8 b, .int .u8 c, .int .u8 d, .int .u8 e]) (by simp [results, Try.results15, go_sem]) rfl ⟨rfl, by first | exact Below.refl _ _ | exact own1 _ _ | exact own2 _ _ _ | exact own3 _ _ _ _ | exact own4 _ _ _ _ _ | exact below_drewN (Below.refl _ _) _⟩
set_option maxHeartbeats 1000000 in
theorem write_4_7 (s m h day sub : Int) (halt carry : Bool) (a b c d e : Int) (x : Int) (hx : 0 ≤ x) (hx2 : x < 256) (y z : Int) (hd : 0 ≤ day) (hd2 : day < 512) (hy : day % 256 = y) (g1 : x % 2 = 1) (g2 : x / 64 % 2 = 1) (g3 : x / 128 = 1) (hz : 256 + y = z) (w : World) : Calls Try.prog 15 #[.agg #[.int .u8 s, .int .u8 m, .int .u8 h, .int .i64 day, .int .i64 sub, .bool halt, .bool carry, .int .u8 a, .int .u8 b, .int .u8 c, .int .u8 d, .int .u8 e], .int .i64 4, .int .u8 x] w fun q_ w' => q_ = .returned (.agg #[.int .u8 s, .int .u8 m, .int .u8 h, .int .i64 z, .int .i64 sub, .bool true, .bool true, .int .u8 a, .int .u8 b, .int .u8 c, .int .u8 d, .int .u8 e]) ∧ Below w.heap.size w w' := by
  have e1 : bits .andNot .i64 day 256 = y := (dhi day hd hd2).trans hy
  have e2 : bits .or .i64 y 256 = y + 256 := dor2 y (by omega) (by omega)
  have e3 : bits .and .u8 x 1 = 1 := (and1 x hx hx2).trans (by omega)
  have e4 : bits .and .u8 x 64 = 64 := (and64 x hx hx2).trans (by omega)
  have e5 : bits .and .u8 x 128 = 128 := (and128 x hx hx2).trans (by omega)
  have e6 : y + 256 = z := by omega
  clear g1 g2 g3 hz
  go_enter Try.func15, Try.ntmps15
  go_wp2
  all_goals exact bodyPost_ret (v := .agg #[.int .u8 s, .int .u8 m, .int .u8 h, .int .i64 z, .int .i64 sub, .bool true, .bool true, .int .u8 a, .int .u8 b, .int .u8 c, .int .u8 d, .int .u8 e]) (by simp [results, Try.results15, go_sem]) rfl ⟨rfl, by first | exact Below.refl _ _ | exact own1 _ _ | exact own2 _ _ _ | exact own3 _ _ _ _ | exact own4 _ _ _ _ _ | exact below_drewN (Below.refl _ _) _⟩
set_option maxHeartbeats 1000000 in
theorem write_5 (s m h day sub : Int) (halt carry : Bool) (a b c d e : Int) (x : Int) (hx : 0 ≤ x) (hx2 : x < 256) (n : Int) (g0 : ¬ n = 0) (g1 : ¬ n = 1) (g2 : ¬ n = 2) (g3 : ¬ n = 3) (g4 : ¬ n = 4) (w : World) : Calls Try.prog 15 #[.agg #[.int .u8 s, .int .u8 m, .int .u8 h, .int .i64 day, .int .i64 sub, .bool halt, .bool carry, .int .u8 a, .int .u8 b, .int .u8 c, .int .u8 d, .int .u8 e], .int .i64 n, .int .u8 x] w fun q_ w' => q_ = .returned (.agg #[.int .u8 s, .int .u8 m, .int .u8 h, .int .i64 day, .int .i64 sub, .bool halt, .bool carry, .int .u8 a, .int .u8 b, .int .u8 c, .int .u8 d, .int .u8 e]) ∧ Below w.heap.size w w' := by
  go_enter Try.func15, Try.ntmps15
  go_wp2
  all_goals exact bodyPost_ret (v := .agg #[.int .u8 s, .int .u8 m, .int .u8 h, .int .i64 day, .int .i64 sub, .bool halt, .bool carry, .int .u8 a, .int .u8 b, .int .u8 c, .int .u8 d, .int .u8 e]) (by simp [results, Try.results15, go_sem]) rfl ⟨rfl, by first | exact Below.refl _ _ | exact own1 _ _ | exact own2 _ _ _ | exact own3 _ _ _ _ | exact own4 _ _ _ _ _ | exact below_drewN (Below.refl _ _) _⟩
end Go.Proofs.Ytkpjoongbckhcaa
