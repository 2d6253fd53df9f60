/-
  The small functions of the program and of the document, each way: for every copier; no condition but that each number fits.
-/
import Derived.Test.YtnfjgofmfaadnaaBase
import Derived.Deep.Cut
import Derived.BigQuiet
import Derived.WalkSmall
namespace Go.Proofs.Ytnfjgofmfaadnaa
open Go.ChangeShapes Go.WideShapes Go.ChangeAt Go.RowKit
set_option linter.unusedVariables false
set_option linter.unusedSimpArgs false
set_option maxRecDepth 100000
set_option maxHeartbeats 1000000 in
theorem busy_0 (xp xl : Int) (g : ¬ 0 < xl) (w : World) : Calls Try.prog 13 #[.agg #[.int .u8 xp, .int .i64 xl]] w fun q_ w' => q_ = .returned (.bool false) ∧ Below w.heap.size w w' := by
  go_enter Try.func13, Try.ntmps13
  go_wp2
  all_goals exact bodyPost_ret (v := .bool false) (by simp [results, Try.results13, go_sem]) rfl ⟨rfl, by first | exact Below.refl _ _ | exact own1 _ _ | exact own2 _ _ _ | exact own3 _ _ _ _ | exact own4 _ _ _ _ _ | exact below_drewN (Below.refl _ _) _⟩
set_option maxHeartbeats 1000000 in
theorem busy_1 (xp xl : Int) (g : 0 < xl) (w : World) : Calls Try.prog 13 #[.agg #[.int .u8 xp, .int .i64 xl]] w fun q_ w' => q_ = .returned (.bool true) ∧ Below w.heap.size w w' := by
  go_enter Try.func13, Try.ntmps13
  go_wp2
  all_goals exact bodyPost_ret (v := .bool true) (by simp [results, Try.results13, go_sem]) rfl ⟨rfl, by first | exact Below.refl _ _ | exact own1 _ _ | exact own2 _ _ _ | exact own3 _ _ _ _ | exact own4 _ _ _ _ _ | exact below_drewN (Below.refl _ _) _⟩
set_option maxHeartbeats 1000000 in
theorem start_0 (xp xl : Int) (hp : 0 ≤ xp) (hp2 : xp < 256) (g : ¬ 224 ≤ xp) (y : Int) (hy : xp * 256 = y) (w : World) : Calls Try.prog 16 #[.agg #[.int .u8 xp, .int .i64 xl]] w fun q_ w' => q_ = .returned (.int .u16 y) ∧ Below w.heap.size w w' := by
  go_enter Try.func16, Try.ntmps16
  go_wp2
  all_goals exact bodyPost_ret (v := .int .u16 y) (by simp [results, Try.results16, go_sem]) rfl ⟨rfl, by first | exact Below.refl _ _ | exact own1 _ _ | exact own2 _ _ _ | exact own3 _ _ _ _ | exact own4 _ _ _ _ _ | exact below_drewN (Below.refl _ _) _⟩
set_option maxHeartbeats 1000000 in
theorem start_1 (xp xl : Int) (hp : 0 ≤ xp) (hp2 : xp < 256) (g : 224 ≤ xp) (y : Int) (hy : xp * 256 - 8192 = y) (w : World) : Calls Try.prog 16 #[.agg #[.int .u8 xp, .int .i64 xl]] w fun q_ w' => q_ = .returned (.int .u16 y) ∧ Below w.heap.size w w' := by
  go_enter Try.func16, Try.ntmps16
  go_wp2
  all_goals exact bodyPost_ret (v := .int .u16 y) (by simp [results, Try.results16, go_sem]) rfl ⟨rfl, by first | exact Below.refl _ _ | exact own1 _ _ | exact own2 _ _ _ | exact own3 _ _ _ _ | exact own4 _ _ _ _ _ | exact below_drewN (Below.refl _ _) _⟩
set_option maxHeartbeats 1000000 in
theorem write_c (xp xl : Int) (x : Int) (hx : 0 ≤ x) (hx2 : x < 256) (w : World) : Calls Try.prog 9 #[.agg #[.int .u8 xp, .int .i64 xl], .int .u8 x] w fun q_ w' => q_ = .returned (.agg #[.int .u8 x, .int .i64 160]) ∧ Below w.heap.size w w' := by
  go_enter Try.func9, Try.ntmps9
  go_wp2
  all_goals exact bodyPost_ret (v := .agg #[.int .u8 x, .int .i64 160]) (by simp [results, Try.results9, go_sem]) rfl ⟨rfl, by first | exact Below.refl _ _ | exact own1 _ _ | exact own2 _ _ _ | exact own3 _ _ _ _ | exact own4 _ _ _ _ _ | exact below_drewN (Below.refl _ _) _⟩
set_option maxHeartbeats 1000000 in
theorem rwrite_c (xp xl : Int) (x : Int) (hx : 0 ≤ x) (hx2 : x < 256) (w : World) : Calls Try.prog 10 #[.agg #[.int .u8 xp, .int .i64 xl], .int .u8 x] w fun q_ w' => q_ = .returned (.agg #[.int .u8 x, .int .i64 160]) ∧ Below w.heap.size w w' := by
  go_enter Try.func10, Try.ntmps10
  go_wp2
  all_goals exact bodyPost_ret (v := .agg #[.int .u8 x, .int .i64 160]) (by simp [results, Try.results10, go_sem]) rfl ⟨rfl, by first | exact Below.refl _ _ | exact own1 _ _ | exact own2 _ _ _ | exact own3 _ _ _ _ | exact own4 _ _ _ _ _ | exact below_drewN (Below.refl _ _) _⟩
set_option maxHeartbeats 1000000 in
theorem rlets_0 (xp xl : Int) (a : Int) (ha : 0 ≤ a) (ha2 : a < 65536) (g : xl < 1) (w : World) : Calls Try.prog 15 #[.agg #[.int .u8 xp, .int .i64 xl], .int .u16 a] w fun q_ w' => q_ = .returned (.bool true) ∧ Below w.heap.size w w' := by
  go_enter Try.func15, Try.ntmps15
  go_wp2
  all_goals exact bodyPost_ret (v := .bool true) (by simp [results, Try.results15, go_sem]) rfl ⟨rfl, by first | exact Below.refl _ _ | exact own1 _ _ | exact own2 _ _ _ | exact own3 _ _ _ _ | exact own4 _ _ _ _ _ | exact below_drewN (Below.refl _ _) _⟩
set_option maxHeartbeats 1000000 in
theorem rlets_1 (xp xl : Int) (a : Int) (ha : 0 ≤ a) (ha2 : a < 65536) (g : ¬ xl < 1) (h : 65280 ≤ a) (w : World) : Calls Try.prog 15 #[.agg #[.int .u8 xp, .int .i64 xl], .int .u16 a] w fun q_ w' => q_ = .returned (.bool true) ∧ Below w.heap.size w w' := by
  go_enter Try.func15, Try.ntmps15
  go_wp2
  all_goals exact bodyPost_ret (v := .bool true) (by simp [results, Try.results15, go_sem]) rfl ⟨rfl, by first | exact Below.refl _ _ | exact own1 _ _ | exact own2 _ _ _ | exact own3 _ _ _ _ | exact own4 _ _ _ _ _ | exact below_drewN (Below.refl _ _) _⟩
set_option maxHeartbeats 1000000 in
theorem rlets_2 (xp xl : Int) (a : Int) (ha : 0 ≤ a) (ha2 : a < 65536) (g : ¬ xl < 1) (h : ¬ 65280 ≤ a) (w : World) : Calls Try.prog 15 #[.agg #[.int .u8 xp, .int .i64 xl], .int .u16 a] w fun q_ w' => q_ = .returned (.bool false) ∧ Below w.heap.size w w' := by
  go_enter Try.func15, Try.ntmps15
  go_wp2
  all_goals exact bodyPost_ret (v := .bool false) (by simp [results, Try.results15, go_sem]) rfl ⟨rfl, by first | exact Below.refl _ _ | exact own1 _ _ | exact own2 _ _ _ | exact own3 _ _ _ _ | exact own4 _ _ _ _ _ | exact below_drewN (Below.refl _ _) _⟩
set_option maxHeartbeats 1000000 in
theorem rtick_0 (xp xl : Int) (g : xl < 1) (w : World) : Calls Try.prog 12 #[.agg #[.int .u8 xp, .int .i64 xl]] w fun q_ w' => q_ = .returned (.tuple #[.agg #[.int .u8 xp, .int .i64 xl], .int .u16 0, .int .i64 0, .bool false]) ∧ Below w.heap.size w w' := by
  go_enter Try.func12, Try.ntmps12
  go_wp2
  all_goals exact bodyPost_ret (v := .tuple #[.agg #[.int .u8 xp, .int .i64 xl], .int .u16 0, .int .i64 0, .bool false]) (by simp [results, Try.results12, go_sem]) rfl ⟨rfl, by first | exact Below.refl _ _ | exact own1 _ _ | exact own2 _ _ _ | exact own3 _ _ _ _ | exact own4 _ _ _ _ _ | exact below_drewN (Below.refl _ _) _⟩
set_option maxHeartbeats 1000000 in
theorem rtick_1 (xp xl : Int) (hp : 0 ≤ xp) (hp2 : xp < 256) (hl : -1000 ≤ xl) (hl2 : xl ≤ 1000) (g : ¬ xl < 1) (z u f : Int) (hz : 160 - xl = z) (hu : xl - 1 = u) (g2 : ¬ 224 ≤ xp) (y : Int) (hy : xp * 256 = y) (hf : (y + z) % 65536 = f) (w : World) : Calls Try.prog 12 #[.agg #[.int .u8 xp, .int .i64 xl]] w fun q_ w' => q_ = .returned (.tuple #[.agg #[.int .u8 xp, .int .i64 u], .int .u16 f, .int .i64 z, .bool true]) ∧ Below w.heap.size w w' := by
  have r1 : (y + z + 65536).tmod 65536 = (y + z) % 65536 := by rw [Int.tmod_eq_emod_of_nonneg (by omega)]; omega
  have r2 : 0 ≤ f ∧ f < 65536 := by omega
  go_enter Try.func12, Try.ntmps12
  go_wp2
  all_goals exact bodyPost_ret (v := .tuple #[.agg #[.int .u8 xp, .int .i64 u], .int .u16 f, .int .i64 z, .bool true]) (by simp [results, Try.results12, go_sem]) rfl ⟨rfl, by first | exact Below.refl _ _ | exact own1 _ _ | exact own2 _ _ _ | exact own3 _ _ _ _ | exact own4 _ _ _ _ _ | exact below_drewN (Below.refl _ _) _⟩
set_option maxHeartbeats 1000000 in
theorem rtick_2 (xp xl : Int) (hp : 0 ≤ xp) (hp2 : xp < 256) (hl : -1000 ≤ xl) (hl2 : xl ≤ 1000) (g : ¬ xl < 1) (z u f : Int) (hz : 160 - xl = z) (hu : xl - 1 = u) (g2 : 224 ≤ xp) (q y : Int) (hq : xp - 32 = q) (hy : q * 256 = y) (hf : (y + z) % 65536 = f) (w : World) : Calls Try.prog 12 #[.agg #[.int .u8 xp, .int .i64 xl]] w fun q_ w' => q_ = .returned (.tuple #[.agg #[.int .u8 xp, .int .i64 u], .int .u16 f, .int .i64 z, .bool true]) ∧ Below w.heap.size w w' := by
  have r1 : (y + z + 65536).tmod 65536 = (y + z) % 65536 := by rw [Int.tmod_eq_emod_of_nonneg (by omega)]; omega
  have r2 : 0 ≤ f ∧ f < 65536 := by omega
  go_enter Try.func12, Try.ntmps12
  go_wp2
  all_goals exact bodyPost_ret (v := .tuple #[.agg #[.int .u8 xp, .int .i64 u], .int .u16 f, .int .i64 z, .bool true]) (by simp [results, Try.results12, go_sem]) rfl ⟨rfl, by first | exact Below.refl _ _ | exact own1 _ _ | exact own2 _ _ _ | exact own3 _ _ _ _ | exact own4 _ _ _ _ _ | exact below_drewN (Below.refl _ _) _⟩
end Go.Proofs.Ytnfjgofmfaadnaa
