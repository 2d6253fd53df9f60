/-
  The small functions of the document, each way: for every clock; no condition but that each number fits.
-/
import Derived.Test.YtkpjoongbckhcaaBase
import Derived.Test.YtkpjoongbckhcaaBits
import Derived.Deep.Cut
namespace Go.Proofs.Ytkpjoongbckhcaa
open Go.ChangeShapes Go.WideShapes Go.ChangeAt Go.RowKit
set_option linter.unusedVariables false
set_option linter.unusedSimpArgs false
set_option maxRecDepth 100000
set_option maxHeartbeats 1000000 in
theorem rread_0 (s m h day sub : Int) (halt carry : Bool) (a b c d e : Int) (w : World) : Calls Try.prog 13 #[.agg #[.int .u8 s, .int .u8 m, .int .u8 h, .int .i64 day, .int .i64 sub, .bool halt, .bool carry, .int .u8 a, .int .u8 b, .int .u8 c, .int .u8 d, .int .u8 e], .int .i64 0] w fun q_ w' => q_ = .returned (.int .u8 a) ∧ Below w.heap.size w w' := by
  go_enter Try.func13, Try.ntmps13
  go_wp2
  all_goals exact bodyPost_ret (v := .int .u8 a) (by simp [results, Try.results13, go_sem]) rfl ⟨rfl, by first | exact Below.refl _ _ | exact own1 _ _ | exact own2 _ _ _ | exact own3 _ _ _ _ | exact own4 _ _ _ _ _ | exact below_drewN (Below.refl _ _) _⟩
set_option maxHeartbeats 1000000 in
theorem rread_1 (s m h day sub : Int) (halt carry : Bool) (a b c d e : Int) (w : World) : Calls Try.prog 13 #[.agg #[.int .u8 s, .int .u8 m, .int .u8 h, .int .i64 day, .int .i64 sub, .bool halt, .bool carry, .int .u8 a, .int .u8 b, .int .u8 c, .int .u8 d, .int .u8 e], .int .i64 1] w fun q_ w' => q_ = .returned (.int .u8 b) ∧ Below w.heap.size w w' := by
  go_enter Try.func13, Try.ntmps13
  go_wp2
  all_goals exact bodyPost_ret (v := .int .u8 b) (by simp [results, Try.results13, go_sem]) rfl ⟨rfl, by first | exact Below.refl _ _ | exact own1 _ _ | exact own2 _ _ _ | exact own3 _ _ _ _ | exact own4 _ _ _ _ _ | exact below_drewN (Below.refl _ _) _⟩
set_option maxHeartbeats 1000000 in
theorem rread_2 (s m h day sub : Int) (halt carry : Bool) (a b c d e : Int) (w : World) : Calls Try.prog 13 #[.agg #[.int .u8 s, .int .u8 m, .int .u8 h, .int .i64 day, .int .i64 sub, .bool halt, .bool carry, .int .u8 a, .int .u8 b, .int .u8 c, .int .u8 d, .int .u8 e], .int .i64 2] w fun q_ w' => q_ = .returned (.int .u8 c) ∧ Below w.heap.size w w' := by
  go_enter Try.func13, Try.ntmps13
  go_wp2
  all_goals exact bodyPost_ret (v := .int .u8 c) (by simp [results, Try.results13, go_sem]) rfl ⟨rfl, by first | exact Below.refl _ _ | exact own1 _ _ | exact own2 _ _ _ | exact own3 _ _ _ _ | exact own4 _ _ _ _ _ | exact below_drewN (Below.refl _ _) _⟩
set_option maxHeartbeats 1000000 in
theorem rread_3 (s m h day sub : Int) (halt carry : Bool) (a b c d e : Int) (w : World) : Calls Try.prog 13 #[.agg #[.int .u8 s, .int .u8 m, .int .u8 h, .int .i64 day, .int .i64 sub, .bool halt, .bool carry, .int .u8 a, .int .u8 b, .int .u8 c, .int .u8 d, .int .u8 e], .int .i64 3] w fun q_ w' => q_ = .returned (.int .u8 d) ∧ Below w.heap.size w w' := by
  go_enter Try.func13, Try.ntmps13
  go_wp2
  all_goals exact bodyPost_ret (v := .int .u8 d) (by simp [results, Try.results13, go_sem]) rfl ⟨rfl, by first | exact Below.refl _ _ | exact own1 _ _ | exact own2 _ _ _ | exact own3 _ _ _ _ | exact own4 _ _ _ _ _ | exact below_drewN (Below.refl _ _) _⟩
set_option maxHeartbeats 1000000 in
theorem rread_4 (s m h day sub : Int) (halt carry : Bool) (a b c d e : Int) (w : World) : Calls Try.prog 13 #[.agg #[.int .u8 s, .int .u8 m, .int .u8 h, .int .i64 day, .int .i64 sub, .bool halt, .bool carry, .int .u8 a, .int .u8 b, .int .u8 c, .int .u8 d, .int .u8 e], .int .i64 4] w fun q_ w' => q_ = .returned (.int .u8 e) ∧ Below w.heap.size w w' := by
  go_enter Try.func13, Try.ntmps13
  go_wp2
  all_goals exact bodyPost_ret (v := .int .u8 e) (by simp [results, Try.results13, go_sem]) rfl ⟨rfl, by first | exact Below.refl _ _ | exact own1 _ _ | exact own2 _ _ _ | exact own3 _ _ _ _ | exact own4 _ _ _ _ _ | exact below_drewN (Below.refl _ _) _⟩
set_option maxHeartbeats 1000000 in
theorem rread_5 (s m h day sub : Int) (halt carry : Bool) (a b c d e : Int) (n : Int) (g : n < 0) (w : World) : Calls Try.prog 13 #[.agg #[.int .u8 s, .int .u8 m, .int .u8 h, .int .i64 day, .int .i64 sub, .bool halt, .bool carry, .int .u8 a, .int .u8 b, .int .u8 c, .int .u8 d, .int .u8 e], .int .i64 n] w fun q_ w' => q_ = .returned (.int .u8 0) ∧ Below w.heap.size w w' := by
  go_enter Try.func13, Try.ntmps13
  go_wp2
  all_goals exact bodyPost_ret (v := .int .u8 0) (by simp [results, Try.results13, go_sem]) rfl ⟨rfl, by first | exact Below.refl _ _ | exact own1 _ _ | exact own2 _ _ _ | exact own3 _ _ _ _ | exact own4 _ _ _ _ _ | exact below_drewN (Below.refl _ _) _⟩
set_option maxHeartbeats 1000000 in
theorem rread_6 (s m h day sub : Int) (halt carry : Bool) (a b c d e : Int) (n : Int) (g : 4 < n) (w : World) : Calls Try.prog 13 #[.agg #[.int .u8 s, .int .u8 m, .int .u8 h, .int .i64 day, .int .i64 sub, .bool halt, .bool carry, .int .u8 a, .int .u8 b, .int .u8 c, .int .u8 d, .int .u8 e], .int .i64 n] w fun q_ w' => q_ = .returned (.int .u8 0) ∧ Below w.heap.size w w' := by
  have g0 : ¬ n < 0 := by omega
  go_enter Try.func13, Try.ntmps13
  go_wp2
  all_goals exact bodyPost_ret (v := .int .u8 0) (by simp [results, Try.results13, go_sem]) rfl ⟨rfl, by first | exact Below.refl _ _ | exact own1 _ _ | exact own2 _ _ _ | exact own3 _ _ _ _ | exact own4 _ _ _ _ _ | exact below_drewN (Below.refl _ _) _⟩
set_option maxHeartbeats 1000000 in
theorem rwrite_0 (s m h day sub : Int) (halt carry : Bool) (a b c d e : Int) (x : Int) (hx : 0 ≤ x) (hx2 : x < 256) (w : World) : Calls Try.prog 18 #[.agg #[.int .u8 s, .int .u8 m, .int .u8 h, .int .i64 day, .int .i64 sub, .bool halt, .bool carry, .int .u8 a, .int .u8 b, .int .u8 c, .int .u8 d, .int .u8 e], .int .i64 0, .int .u8 x] w fun q_ w' => q_ = .returned (.agg #[.int .u8 (x % 64), .int .u8 m, .int .u8 h, .int .i64 day, .int .i64 0, .bool halt, .bool carry, .int .u8 a, .int .u8 b, .int .u8 c, .int .u8 d, .int .u8 e]) ∧ Below w.heap.size w w' := by
  go_enter Try.func18, Try.ntmps18
  go_wp2
  all_goals exact bodyPost_ret (v := .agg #[.int .u8 (x % 64), .int .u8 m, .int .u8 h, .int .i64 day, .int .i64 0, .bool halt, .bool carry, .int .u8 a, .int .u8 b, .int .u8 c, .int .u8 d, .int .u8 e]) (by simp [results, Try.results18, go_sem]) rfl ⟨rfl, by first | exact Below.refl _ _ | exact own1 _ _ | exact own2 _ _ _ | exact own3 _ _ _ _ | exact own4 _ _ _ _ _ | exact below_drewN (Below.refl _ _) _⟩
set_option maxHeartbeats 1000000 in
theorem rwrite_1 (s m h day sub : Int) (halt carry : Bool) (a b c d e : Int) (x : Int) (hx : 0 ≤ x) (hx2 : x < 256) (w : World) : Calls Try.prog 18 #[.agg #[.int .u8 s, .int .u8 m, .int .u8 h, .int .i64 day, .int .i64 sub, .bool halt, .bool carry, .int .u8 a, .int .u8 b, .int .u8 c, .int .u8 d, .int .u8 e], .int .i64 1, .int .u8 x] w fun q_ w' => q_ = .returned (.agg #[.int .u8 s, .int .u8 (x % 64), .int .u8 h, .int .i64 day, .int .i64 sub, .bool halt, .bool carry, .int .u8 a, .int .u8 b, .int .u8 c, .int .u8 d, .int .u8 e]) ∧ Below w.heap.size w w' := by
  go_enter Try.func18, Try.ntmps18
  go_wp2
  all_goals exact bodyPost_ret (v := .agg #[.int .u8 s, .int .u8 (x % 64), .int .u8 h, .int .i64 day, .int .i64 sub, .bool halt, .bool carry, .int .u8 a, .int .u8 b, .int .u8 c, .int .u8 d, .int .u8 e]) (by simp [results, Try.results18, go_sem]) rfl ⟨rfl, by first | exact Below.refl _ _ | exact own1 _ _ | exact own2 _ _ _ | exact own3 _ _ _ _ | exact own4 _ _ _ _ _ | exact below_drewN (Below.refl _ _) _⟩
set_option maxHeartbeats 1000000 in
theorem rwrite_2 (s m h day sub : Int) (halt carry : Bool) (a b c d e : Int) (x : Int) (hx : 0 ≤ x) (hx2 : x < 256) (w : World) : Calls Try.prog 18 #[.agg #[.int .u8 s, .int .u8 m, .int .u8 h, .int .i64 day, .int .i64 sub, .bool halt, .bool carry, .int .u8 a, .int .u8 b, .int .u8 c, .int .u8 d, .int .u8 e], .int .i64 2, .int .u8 x] w fun q_ w' => q_ = .returned (.agg #[.int .u8 s, .int .u8 m, .int .u8 (x % 32), .int .i64 day, .int .i64 sub, .bool halt, .bool carry, .int .u8 a, .int .u8 b, .int .u8 c, .int .u8 d, .int .u8 e]) ∧ Below w.heap.size w w' := by
  go_enter Try.func18, Try.ntmps18
  go_wp2
  all_goals exact bodyPost_ret (v := .agg #[.int .u8 s, .int .u8 m, .int .u8 (x % 32), .int .i64 day, .int .i64 sub, .bool halt, .bool carry, .int .u8 a, .int .u8 b, .int .u8 c, .int .u8 d, .int .u8 e]) (by simp [results, Try.results18, go_sem]) rfl ⟨rfl, by first | exact Below.refl _ _ | exact own1 _ _ | exact own2 _ _ _ | exact own3 _ _ _ _ | exact own4 _ _ _ _ _ | exact below_drewN (Below.refl _ _) _⟩
set_option maxHeartbeats 1000000 in
theorem rwrite_3 (s m h day sub : Int) (halt carry : Bool) (a b c d e : Int) (x : Int) (hx : 0 ≤ x) (hx2 : x < 256) (z : Int) (hd : 0 ≤ day) (hd2 : day < 512) (hz : day / 256 * 256 + x = z) (w : World) : Calls Try.prog 18 #[.agg #[.int .u8 s, .int .u8 m, .int .u8 h, .int .i64 day, .int .i64 sub, .bool halt, .bool carry, .int .u8 a, .int .u8 b, .int .u8 c, .int .u8 d, .int .u8 e], .int .i64 3, .int .u8 x] w fun q_ w' => q_ = .returned (.agg #[.int .u8 s, .int .u8 m, .int .u8 h, .int .i64 z, .int .i64 sub, .bool halt, .bool carry, .int .u8 a, .int .u8 b, .int .u8 c, .int .u8 d, .int .u8 e]) ∧ Below w.heap.size w w' := by
  go_enter Try.func18, Try.ntmps18
  go_wp2
  all_goals exact bodyPost_ret (v := .agg #[.int .u8 s, .int .u8 m, .int .u8 h, .int .i64 z, .int .i64 sub, .bool halt, .bool carry, .int .u8 a, .int .u8 b, .int .u8 c, .int .u8 d, .int .u8 e]) (by simp [results, Try.results18, go_sem]) rfl ⟨rfl, by first | exact Below.refl _ _ | exact own1 _ _ | exact own2 _ _ _ | exact own3 _ _ _ _ | exact own4 _ _ _ _ _ | exact below_drewN (Below.refl _ _) _⟩
set_option maxHeartbeats 1000000 in
theorem rwrite_4_0 (s m h day sub : Int) (halt carry : Bool) (a b c d e : Int) (x : Int) (hx : 0 ≤ x) (hx2 : x < 256) (z : Int) (hd : 0 ≤ day) (hd2 : day < 512) (g2 : x / 64 % 2 = 0) (g3 : x / 128 = 0) (hz : x % 2 * 256 + day % 256 = z) (w : World) : Calls Try.prog 18 #[.agg #[.int .u8 s, .int .u8 m, .int .u8 h, .int .i64 day, .int .i64 sub, .bool halt, .bool carry, .int .u8 a, .int .u8 b, .int .u8 c, .int .u8 d, .int .u8 e], .int .i64 4, .int .u8 x] w fun q_ w' => q_ = .returned (.agg #[.int .u8 s, .int .u8 m, .int .u8 h, .int .i64 z, .int .i64 sub, .bool false, .bool false, .int .u8 a, .int .u8 b, .int .u8 c, .int .u8 d, .int .u8 e]) ∧ Below w.heap.size w w' := by
  go_enter Try.func18, Try.ntmps18
  go_wp2
  all_goals exact bodyPost_ret (v := .agg #[.int .u8 s, .int .u8 m, .int .u8 h, .int .i64 z, .int .i64 sub, .bool false, .bool false, .int .u8 a, .int .u8 b, .int .u8 c, .int .u8 d, .int .u8 e]) (by simp [results, Try.results18, go_sem]) rfl ⟨rfl, by first | exact Below.refl _ _ | exact own1 _ _ | exact own2 _ _ _ | exact own3 _ _ _ _ | exact own4 _ _ _ _ _ | exact below_drewN (Below.refl _ _) _⟩
set_option maxHeartbeats 1000000 in
theorem rwrite_4_1 (s m h day sub : Int) (halt carry : Bool) (a b c d e : Int) (x : Int) (hx : 0 ≤ x) (hx2 : x < 256) (z : Int) (hd : 0 ≤ day) (hd2 : day < 512) (g2 : x / 64 % 2 = 1) (g3 : x / 128 = 0) (hz : x % 2 * 256 + day % 256 = z) (w : World) : Calls Try.prog 18 #[.agg #[.int .u8 s, .int .u8 m, .int .u8 h, .int .i64 day, .int .i64 sub, .bool halt, .bool carry, .int .u8 a, .int .u8 b, .int .u8 c, .int .u8 d, .int .u8 e], .int .i64 4, .int .u8 x] w fun q_ w' => q_ = .returned (.agg #[.int .u8 s, .int .u8 m, .int .u8 h, .int .i64 z, .int .i64 sub, .bool true, .bool false, .int .u8 a, .int .u8 b, .int .u8 c, .int .u8 d, .int .u8 e]) ∧ Below w.heap.size w w' := by
  go_enter Try.func18, Try.ntmps18
  go_wp2
  all_goals exact bodyPost_ret (v := .agg #[.int .u8 s, .int .u8 m, .int .u8 h, .int .i64 z, .int .i64 sub, .bool true, .bool false, .int .u8 a, .int .u8 b, .int .u8 c, .int .u8 d, .int .u8 e]) (by simp [results, Try.results18, go_sem]) rfl ⟨rfl, by first | exact Below.refl _ _ | exact own1 _ _ | exact own2 _ _ _ | exact own3 _ _ _ _ | exact own4 _ _ _ _ _ | exact below_drewN (Below.refl _ _) _⟩
set_option maxHeartbeats 1000000 in
theorem rwrite_4_2 (s m h day sub : Int) (halt carry : Bool) (a b c d e : Int) (x : Int) (hx : 0 ≤ x) (hx2 : x < 256) (z : Int) (hd : 0 ≤ day) (hd2 : day < 512) (g2 : x / 64 % 2 = 0) (g3 : x / 128 = 1) (hz : x % 2 * 256 + day % 256 = z) (w : World) : Calls Try.prog 18 #[.agg #[.int .u8 s, .int .u8 m, .int .u8 h, .int .i64 day, .int .i64 sub, .bool halt, .bool carry, .int .u8 a, .int .u8 b, .int .u8 c, .int .u8 d, .int .u8 e], .int .i64 4, .int .u8 x] w fun q_ w' => q_ = .returned (.agg #[.int .u8 s, .int .u8 m, .int .u8 h, .int .i64 z, .int .i64 sub, .bool false, .bool true, .int .u8 a, .int .u8 b, .int .u8 c, .int .u8 d, .int .u8 e]) ∧ Below w.heap.size w w' := by
  go_enter Try.func18, Try.ntmps18
  go_wp2
  all_goals exact bodyPost_ret (v := .agg #[.int .u8 s, .int .u8 m, .int .u8 h, .int .i64 z, .int .i64 sub, .bool false, .bool true, .int .u8 a, .int .u8 b, .int .u8 c, .int .u8 d, .int .u8 e]) (by simp [results, Try.results18, go_sem]) rfl ⟨rfl, by first | exact Below.refl _ _ | exact own1 _ _ | exact own2 _ _ _ | exact own3 _ _ _ _ | exact own4 _ _ _ _ _ | exact below_drewN (Below.refl _ _) _⟩
set_option maxHeartbeats 1000000 in
theorem rwrite_4_3 (s m h day sub : Int) (halt carry : Bool) (a b c d e : Int) (x : Int) (hx : 0 ≤ x) (hx2 : x < 256) (z : Int) (hd : 0 ≤ day) (hd2 : day < 512) (g2 : x / 64 % 2 = 1) (g3 : x / 128 = 1) (hz : x % 2 * 256 + day % 256 = z) (w : World) : Calls Try.prog 18 #[.agg #[.int .u8 s, .int .u8 m, .int .u8 h, .int .i64 day, .int .i64 sub, .bool halt, .bool carry, .int .u8 a, .int .u8 b, .int .u8 c, .int .u8 d, .int .u8 e], .int .i64 4, .int .u8 x] w fun q_ w' => q_ = .returned (.agg #[.int .u8 s, .int .u8 m, .int .u8 h, .int .i64 z, .int .i64 sub, .bool true, .bool true, .int .u8 a, .int .u8 b, .int .u8 c, .int .u8 d, .int .u8 e]) ∧ Below w.heap.size w w' := by
  go_enter Try.func18, Try.ntmps18
  go_wp2
  all_goals exact bodyPost_ret (v := .agg #[.int .u8 s, .int .u8 m, .int .u8 h, .int .i64 z, .int .i64 sub, .bool true, .bool true, .int .u8 a, .int .u8 b, .int .u8 c, .int .u8 d, .int .u8 e]) (by simp [results, Try.results18, go_sem]) rfl ⟨rfl, by first | exact Below.refl _ _ | exact own1 _ _ | exact own2 _ _ _ | exact own3 _ _ _ _ | exact own4 _ _ _ _ _ | exact below_drewN (Below.refl _ _) _⟩
set_option maxHeartbeats 1000000 in
theorem rwrite_5 (s m h day sub : Int) (halt carry : Bool) (a b c d e : Int) (x : Int) (hx : 0 ≤ x) (hx2 : x < 256) (n : Int) (g0 : ¬ n = 0) (g1 : ¬ n = 1) (g2 : ¬ n = 2) (g3 : ¬ n = 3) (g4 : ¬ n = 4) (w : World) : Calls Try.prog 18 #[.agg #[.int .u8 s, .int .u8 m, .int .u8 h, .int .i64 day, .int .i64 sub, .bool halt, .bool carry, .int .u8 a, .int .u8 b, .int .u8 c, .int .u8 d, .int .u8 e], .int .i64 n, .int .u8 x] w fun q_ w' => q_ = .returned (.agg #[.int .u8 s, .int .u8 m, .int .u8 h, .int .i64 day, .int .i64 sub, .bool halt, .bool carry, .int .u8 a, .int .u8 b, .int .u8 c, .int .u8 d, .int .u8 e]) ∧ Below w.heap.size w w' := by
  go_enter Try.func18, Try.ntmps18
  go_wp2
  all_goals exact bodyPost_ret (v := .agg #[.int .u8 s, .int .u8 m, .int .u8 h, .int .i64 day, .int .i64 sub, .bool halt, .bool carry, .int .u8 a, .int .u8 b, .int .u8 c, .int .u8 d, .int .u8 e]) (by simp [results, Try.results18, go_sem]) rfl ⟨rfl, by first | exact Below.refl _ _ | exact own1 _ _ | exact own2 _ _ _ | exact own3 _ _ _ _ | exact own4 _ _ _ _ _ | exact below_drewN (Below.refl _ _) _⟩
set_option maxHeartbeats 1000000 in
theorem part_0 (s m h day sub : Int) (halt carry : Bool) (a b c d e : Int) (w : World) : Calls Try.prog 24 #[.agg #[.int .u8 s, .int .u8 m, .int .u8 h, .int .i64 day, .int .i64 sub, .bool halt, .bool carry, .int .u8 a, .int .u8 b, .int .u8 c, .int .u8 d, .int .u8 e], .int .i64 0] w fun q_ w' => q_ = .returned (.int .u8 s) ∧ Below w.heap.size w w' := by
  go_enter Try.func24, Try.ntmps24
  go_wp2
  all_goals exact bodyPost_ret (v := .int .u8 s) (by simp [results, Try.results24, go_sem]) rfl ⟨rfl, by first | exact Below.refl _ _ | exact own1 _ _ | exact own2 _ _ _ | exact own3 _ _ _ _ | exact own4 _ _ _ _ _ | exact below_drewN (Below.refl _ _) _⟩
set_option maxHeartbeats 1000000 in
theorem part_1 (s m h day sub : Int) (halt carry : Bool) (a b c d e : Int) (w : World) : Calls Try.prog 24 #[.agg #[.int .u8 s, .int .u8 m, .int .u8 h, .int .i64 day, .int .i64 sub, .bool halt, .bool carry, .int .u8 a, .int .u8 b, .int .u8 c, .int .u8 d, .int .u8 e], .int .i64 1] w fun q_ w' => q_ = .returned (.int .u8 m) ∧ Below w.heap.size w w' := by
  go_enter Try.func24, Try.ntmps24
  go_wp2
  all_goals exact bodyPost_ret (v := .int .u8 m) (by simp [results, Try.results24, go_sem]) rfl ⟨rfl, by first | exact Below.refl _ _ | exact own1 _ _ | exact own2 _ _ _ | exact own3 _ _ _ _ | exact own4 _ _ _ _ _ | exact below_drewN (Below.refl _ _) _⟩
set_option maxHeartbeats 1000000 in
theorem part_2 (s m h day sub : Int) (halt carry : Bool) (a b c d e : Int) (w : World) : Calls Try.prog 24 #[.agg #[.int .u8 s, .int .u8 m, .int .u8 h, .int .i64 day, .int .i64 sub, .bool halt, .bool carry, .int .u8 a, .int .u8 b, .int .u8 c, .int .u8 d, .int .u8 e], .int .i64 2] w fun q_ w' => q_ = .returned (.int .u8 h) ∧ Below w.heap.size w w' := by
  go_enter Try.func24, Try.ntmps24
  go_wp2
  all_goals exact bodyPost_ret (v := .int .u8 h) (by simp [results, Try.results24, go_sem]) rfl ⟨rfl, by first | exact Below.refl _ _ | exact own1 _ _ | exact own2 _ _ _ | exact own3 _ _ _ _ | exact own4 _ _ _ _ _ | exact below_drewN (Below.refl _ _) _⟩
set_option maxHeartbeats 1000000 in
theorem part_3 (s m h day sub : Int) (halt carry : Bool) (a b c d e : Int) (z : Int) (hd : 0 ≤ day) (hd2 : day < 512) (hz : day % 256 = z) (w : World) : Calls Try.prog 24 #[.agg #[.int .u8 s, .int .u8 m, .int .u8 h, .int .i64 day, .int .i64 sub, .bool halt, .bool carry, .int .u8 a, .int .u8 b, .int .u8 c, .int .u8 d, .int .u8 e], .int .i64 3] w fun q_ w' => q_ = .returned (.int .u8 z) ∧ Below w.heap.size w w' := by
  have g0 : 0 ≤ z := by omega
  have g1 : z < 256 := by omega
  go_enter Try.func24, Try.ntmps24
  go_wp2
  all_goals exact bodyPost_ret (v := .int .u8 z) (by simp [results, Try.results24, go_sem]) rfl ⟨rfl, by first | exact Below.refl _ _ | exact own1 _ _ | exact own2 _ _ _ | exact own3 _ _ _ _ | exact own4 _ _ _ _ _ | exact below_drewN (Below.refl _ _) _⟩
set_option maxHeartbeats 1000000 in
theorem part_4_0 (s m h day sub a b c d e y : Int) (hd : 0 ≤ day) (hd2 : day < 512) (g : day / 256 % 2 = y) (w : World) : Calls Try.prog 24 #[.agg #[.int .u8 s, .int .u8 m, .int .u8 h, .int .i64 day, .int .i64 sub, .bool true, .bool true, .int .u8 a, .int .u8 b, .int .u8 c, .int .u8 d, .int .u8 e], .int .i64 4] w fun q_ w' => q_ = .returned (.int .u8 (y + 192)) ∧ Below w.heap.size w w' := by
  have g0 : 0 ≤ y := by omega
  have g1 : y < 2 := by omega
  have g2 : y + 64 + 128 = y + 192 := by omega
  go_enter Try.func24, Try.ntmps24
  go_wp2
  all_goals exact bodyPost_ret (v := .int .u8 (y + 192)) (by simp [results, Try.results24, go_sem]) rfl ⟨rfl, by first | exact Below.refl _ _ | exact own1 _ _ | exact own2 _ _ _ | exact own3 _ _ _ _ | exact own4 _ _ _ _ _ | exact below_drewN (Below.refl _ _) _⟩
set_option maxHeartbeats 1000000 in
theorem part_4_1 (s m h day sub a b c d e y : Int) (hd : 0 ≤ day) (hd2 : day < 512) (g : day / 256 % 2 = y) (w : World) : Calls Try.prog 24 #[.agg #[.int .u8 s, .int .u8 m, .int .u8 h, .int .i64 day, .int .i64 sub, .bool false, .bool true, .int .u8 a, .int .u8 b, .int .u8 c, .int .u8 d, .int .u8 e], .int .i64 4] w fun q_ w' => q_ = .returned (.int .u8 (y + 128)) ∧ Below w.heap.size w w' := by
  have g0 : 0 ≤ y := by omega
  have g1 : y < 2 := by omega
  go_enter Try.func24, Try.ntmps24
  go_wp2
  all_goals exact bodyPost_ret (v := .int .u8 (y + 128)) (by simp [results, Try.results24, go_sem]) rfl ⟨rfl, by first | exact Below.refl _ _ | exact own1 _ _ | exact own2 _ _ _ | exact own3 _ _ _ _ | exact own4 _ _ _ _ _ | exact below_drewN (Below.refl _ _) _⟩
set_option maxHeartbeats 1000000 in
theorem part_4_2 (s m h day sub a b c d e y : Int) (hd : 0 ≤ day) (hd2 : day < 512) (g : day / 256 % 2 = y) (w : World) : Calls Try.prog 24 #[.agg #[.int .u8 s, .int .u8 m, .int .u8 h, .int .i64 day, .int .i64 sub, .bool true, .bool false, .int .u8 a, .int .u8 b, .int .u8 c, .int .u8 d, .int .u8 e], .int .i64 4] w fun q_ w' => q_ = .returned (.int .u8 (y + 64)) ∧ Below w.heap.size w w' := by
  have g0 : 0 ≤ y := by omega
  have g1 : y < 2 := by omega
  go_enter Try.func24, Try.ntmps24
  go_wp2
  all_goals exact bodyPost_ret (v := .int .u8 (y + 64)) (by simp [results, Try.results24, go_sem]) rfl ⟨rfl, by first | exact Below.refl _ _ | exact own1 _ _ | exact own2 _ _ _ | exact own3 _ _ _ _ | exact own4 _ _ _ _ _ | exact below_drewN (Below.refl _ _) _⟩
set_option maxHeartbeats 1000000 in
theorem part_4_3 (s m h day sub a b c d e y : Int) (hd : 0 ≤ day) (hd2 : day < 512) (g : day / 256 % 2 = y) (w : World) : Calls Try.prog 24 #[.agg #[.int .u8 s, .int .u8 m, .int .u8 h, .int .i64 day, .int .i64 sub, .bool false, .bool false, .int .u8 a, .int .u8 b, .int .u8 c, .int .u8 d, .int .u8 e], .int .i64 4] w fun q_ w' => q_ = .returned (.int .u8 y) ∧ Below w.heap.size w w' := by
  have g0 : 0 ≤ y := by omega
  have g1 : y < 2 := by omega
  go_enter Try.func24, Try.ntmps24
  go_wp2
  all_goals exact bodyPost_ret (v := .int .u8 y) (by simp [results, Try.results24, go_sem]) rfl ⟨rfl, by first | exact Below.refl _ _ | exact own1 _ _ | exact own2 _ _ _ | exact own3 _ _ _ _ | exact own4 _ _ _ _ _ | exact below_drewN (Below.refl _ _) _⟩
set_option maxHeartbeats 1000000 in
theorem sec_0 (s m h day sub : Int) (halt carry : Bool) (a b c d e : Int) (us ys : Int) (es : (s + 1) % 256 = us) (fs : us % 64 = ys) (as_ : 0 ≤ us) (bs_ : us < 256) (hs : 0 ≤ s) (hs2 : s < 256) (g0 : ¬ ys = 60) (w : World) : Calls Try.prog 23 #[.agg #[.int .u8 s, .int .u8 m, .int .u8 h, .int .i64 day, .int .i64 sub, .bool halt, .bool carry, .int .u8 a, .int .u8 b, .int .u8 c, .int .u8 d, .int .u8 e]] w fun q_ w' => q_ = .returned (.agg #[.int .u8 ys, .int .u8 m, .int .u8 h, .int .i64 day, .int .i64 sub, .bool halt, .bool carry, .int .u8 a, .int .u8 b, .int .u8 c, .int .u8 d, .int .u8 e]) ∧ Below w.heap.size w w' := by
  have ws : IntKind.u8.wrap (s + 1) = us := by rw [← es]; rfl
  go_enter Try.func23, Try.ntmps23
  go_wp2
  all_goals exact bodyPost_ret (v := .agg #[.int .u8 ys, .int .u8 m, .int .u8 h, .int .i64 day, .int .i64 sub, .bool halt, .bool carry, .int .u8 a, .int .u8 b, .int .u8 c, .int .u8 d, .int .u8 e]) (by simp [results, Try.results23, go_sem]) rfl ⟨rfl, by first | exact Below.refl _ _ | exact own1 _ _ | exact own2 _ _ _ | exact own3 _ _ _ _ | exact own4 _ _ _ _ _ | exact below_drewN (Below.refl _ _) _⟩
set_option maxHeartbeats 1000000 in
theorem sec_1 (s m h day sub : Int) (halt carry : Bool) (a b c d e : Int) (us ys : Int) (es : (s + 1) % 256 = us) (fs : us % 64 = ys) (as_ : 0 ≤ us) (bs_ : us < 256) (um ym : Int) (em : (m + 1) % 256 = um) (fm : um % 64 = ym) (am_ : 0 ≤ um) (bm_ : um < 256) (hs : 0 ≤ s) (hs2 : s < 256) (hm : 0 ≤ m) (hm2 : m < 256) (g0 : ys = 60) (g1 : ¬ ym = 60) (w : World) : Calls Try.prog 23 #[.agg #[.int .u8 s, .int .u8 m, .int .u8 h, .int .i64 day, .int .i64 sub, .bool halt, .bool carry, .int .u8 a, .int .u8 b, .int .u8 c, .int .u8 d, .int .u8 e]] w fun q_ w' => q_ = .returned (.agg #[.int .u8 0, .int .u8 ym, .int .u8 h, .int .i64 day, .int .i64 sub, .bool halt, .bool carry, .int .u8 a, .int .u8 b, .int .u8 c, .int .u8 d, .int .u8 e]) ∧ Below w.heap.size w w' := by
  have ws : IntKind.u8.wrap (s + 1) = us := by rw [← es]; rfl
  have wm : IntKind.u8.wrap (m + 1) = um := by rw [← em]; rfl
  go_enter Try.func23, Try.ntmps23
  go_wp2
  all_goals exact bodyPost_ret (v := .agg #[.int .u8 0, .int .u8 ym, .int .u8 h, .int .i64 day, .int .i64 sub, .bool halt, .bool carry, .int .u8 a, .int .u8 b, .int .u8 c, .int .u8 d, .int .u8 e]) (by simp [results, Try.results23, go_sem]) rfl ⟨rfl, by first | exact Below.refl _ _ | exact own1 _ _ | exact own2 _ _ _ | exact own3 _ _ _ _ | exact own4 _ _ _ _ _ | exact below_drewN (Below.refl _ _) _⟩
set_option maxHeartbeats 1000000 in
theorem sec_2 (s m h day sub : Int) (halt carry : Bool) (a b c d e : Int) (us ys : Int) (es : (s + 1) % 256 = us) (fs : us % 64 = ys) (as_ : 0 ≤ us) (bs_ : us < 256) (um ym : Int) (em : (m + 1) % 256 = um) (fm : um % 64 = ym) (am_ : 0 ≤ um) (bm_ : um < 256) (uh yh : Int) (eh : (h + 1) % 256 = uh) (fh : uh % 32 = yh) (ah_ : 0 ≤ uh) (bh_ : uh < 256) (hs : 0 ≤ s) (hs2 : s < 256) (hm : 0 ≤ m) (hm2 : m < 256) (hh : 0 ≤ h) (hh2 : h < 256) (g0 : ys = 60) (g1 : ym = 60) (g2 : ¬ yh = 24) (w : World) : Calls Try.prog 23 #[.agg #[.int .u8 s, .int .u8 m, .int .u8 h, .int .i64 day, .int .i64 sub, .bool halt, .bool carry, .int .u8 a, .int .u8 b, .int .u8 c, .int .u8 d, .int .u8 e]] w fun q_ w' => q_ = .returned (.agg #[.int .u8 0, .int .u8 0, .int .u8 yh, .int .i64 day, .int .i64 sub, .bool halt, .bool carry, .int .u8 a, .int .u8 b, .int .u8 c, .int .u8 d, .int .u8 e]) ∧ Below w.heap.size w w' := by
  have ws : IntKind.u8.wrap (s + 1) = us := by rw [← es]; rfl
  have wm : IntKind.u8.wrap (m + 1) = um := by rw [← em]; rfl
  have wh : IntKind.u8.wrap (h + 1) = uh := by rw [← eh]; rfl
  go_enter Try.func23, Try.ntmps23
  go_wp2
  all_goals exact bodyPost_ret (v := .agg #[.int .u8 0, .int .u8 0, .int .u8 yh, .int .i64 day, .int .i64 sub, .bool halt, .bool carry, .int .u8 a, .int .u8 b, .int .u8 c, .int .u8 d, .int .u8 e]) (by simp [results, Try.results23, go_sem]) rfl ⟨rfl, by first | exact Below.refl _ _ | exact own1 _ _ | exact own2 _ _ _ | exact own3 _ _ _ _ | exact own4 _ _ _ _ _ | exact below_drewN (Below.refl _ _) _⟩
set_option maxHeartbeats 1000000 in
theorem sec_3 (s m h day sub : Int) (halt carry : Bool) (a b c d e : Int) (us ys : Int) (es : (s + 1) % 256 = us) (fs : us % 64 = ys) (as_ : 0 ≤ us) (bs_ : us < 256) (um ym : Int) (em : (m + 1) % 256 = um) (fm : um % 64 = ym) (am_ : 0 ≤ um) (bm_ : um < 256) (uh yh : Int) (eh : (h + 1) % 256 = uh) (fh : uh % 32 = yh) (ah_ : 0 ≤ uh) (bh_ : uh < 256) (hs : 0 ≤ s) (hs2 : s < 256) (hm : 0 ≤ m) (hm2 : m < 256) (hh : 0 ≤ h) (hh2 : h < 256) (hd : 0 ≤ day) (hd2 : day < 512) (g0 : ys = 60) (g1 : ym = 60) (g2 : yh = 24) (g3 : ¬ day + 1 = 512) (w : World) : Calls Try.prog 23 #[.agg #[.int .u8 s, .int .u8 m, .int .u8 h, .int .i64 day, .int .i64 sub, .bool halt, .bool carry, .int .u8 a, .int .u8 b, .int .u8 c, .int .u8 d, .int .u8 e]] w fun q_ w' => q_ = .returned (.agg #[.int .u8 0, .int .u8 0, .int .u8 0, .int .i64 (day + 1), .int .i64 sub, .bool halt, .bool carry, .int .u8 a, .int .u8 b, .int .u8 c, .int .u8 d, .int .u8 e]) ∧ Below w.heap.size w w' := by
  have ws : IntKind.u8.wrap (s + 1) = us := by rw [← es]; rfl
  have wm : IntKind.u8.wrap (m + 1) = um := by rw [← em]; rfl
  have wh : IntKind.u8.wrap (h + 1) = uh := by rw [← eh]; rfl
  go_enter Try.func23, Try.ntmps23
  go_wp2
  all_goals exact bodyPost_ret (v := .agg #[.int .u8 0, .int .u8 0, .int .u8 0, .int .i64 (day + 1), .int .i64 sub, .bool halt, .bool carry, .int .u8 a, .int .u8 b, .int .u8 c, .int .u8 d, .int .u8 e]) (by simp [results, Try.results23, go_sem]) rfl ⟨rfl, by first | exact Below.refl _ _ | exact own1 _ _ | exact own2 _ _ _ | exact own3 _ _ _ _ | exact own4 _ _ _ _ _ | exact below_drewN (Below.refl _ _) _⟩
set_option maxHeartbeats 1000000 in
theorem sec_4 (s m h day sub : Int) (halt carry : Bool) (a b c d e : Int) (us ys : Int) (es : (s + 1) % 256 = us) (fs : us % 64 = ys) (as_ : 0 ≤ us) (bs_ : us < 256) (um ym : Int) (em : (m + 1) % 256 = um) (fm : um % 64 = ym) (am_ : 0 ≤ um) (bm_ : um < 256) (uh yh : Int) (eh : (h + 1) % 256 = uh) (fh : uh % 32 = yh) (ah_ : 0 ≤ uh) (bh_ : uh < 256) (hs : 0 ≤ s) (hs2 : s < 256) (hm : 0 ≤ m) (hm2 : m < 256) (hh : 0 ≤ h) (hh2 : h < 256) (hd : 0 ≤ day) (hd2 : day < 512) (g0 : ys = 60) (g1 : ym = 60) (g2 : yh = 24) (g3 : day + 1 = 512) (w : World) : Calls Try.prog 23 #[.agg #[.int .u8 s, .int .u8 m, .int .u8 h, .int .i64 day, .int .i64 sub, .bool halt, .bool carry, .int .u8 a, .int .u8 b, .int .u8 c, .int .u8 d, .int .u8 e]] w fun q_ w' => q_ = .returned (.agg #[.int .u8 0, .int .u8 0, .int .u8 0, .int .i64 0, .int .i64 sub, .bool halt, .bool true, .int .u8 a, .int .u8 b, .int .u8 c, .int .u8 d, .int .u8 e]) ∧ Below w.heap.size w w' := by
  have ws : IntKind.u8.wrap (s + 1) = us := by rw [← es]; rfl
  have wm : IntKind.u8.wrap (m + 1) = um := by rw [← em]; rfl
  have wh : IntKind.u8.wrap (h + 1) = uh := by rw [← eh]; rfl
  go_enter Try.func23, Try.ntmps23
  go_wp2
  all_goals exact bodyPost_ret (v := .agg #[.int .u8 0, .int .u8 0, .int .u8 0, .int .i64 0, .int .i64 sub, .bool halt, .bool true, .int .u8 a, .int .u8 b, .int .u8 c, .int .u8 d, .int .u8 e]) (by simp [results, Try.results23, go_sem]) rfl ⟨rfl, by first | exact Below.refl _ _ | exact own1 _ _ | exact own2 _ _ _ | exact own3 _ _ _ _ | exact own4 _ _ _ _ _ | exact below_drewN (Below.refl _ _) _⟩
end Go.Proofs.Ytkpjoongbckhcaa
