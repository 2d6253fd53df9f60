/-
  Read, each way, of the program and of the document: for every timer; no condition but that each number fits.
-/
import Derived.Test.YtjjmnjkmfkcdoaaDoorBase
import Derived.Test.YtjjmnjkmfkcdoaaDoorBits
import Derived.Deep.Cut
import Derived.BigQuiet
import Derived.WalkSmall
namespace Go.Proofs.YtjjmnjkmfkcdoaaDoor
open Go.ChangeShapes Go.WideShapes Go.ChangeAt Go.RowKit
set_option linter.unusedVariables false
set_option linter.unusedSimpArgs false
set_option maxRecDepth 100000
set_option maxHeartbeats 1000000 in
theorem prd_0 (c a m k : Int) (o : Bool) (hc0 : 0 ≤ c) (hc1 : c < 65536) (hk0 : 0 ≤ k) (hk1 : k < 256) (y : Int) (hy : c / 256 = y) (w : World) : Calls Tryd.prog 14 #[.agg #[.int .u16 c, .int .u8 a, .int .u8 m, .int .u8 k, .bool o], .int .i64 0] w fun q_ w' => q_ = .returned (.int .u8 y) ∧ Below w.heap.size w w' := by
  have y0 : 0 ≤ y := by omega
  have y1 : y < 256 := by omega
  go_enter Tryd.func14, Tryd.ntmps14
  go_wp2
  all_goals exact bodyPost_ret (v := .int .u8 y) (by simp [results, Tryd.results14, go_sem]) rfl ⟨rfl, by first | exact Below.refl _ _ | exact own1 _ _ | exact own2 _ _ _ | exact own3 _ _ _ _ | exact own4 _ _ _ _ _ | exact below_drewN (Below.refl _ _) _⟩
set_option maxHeartbeats 1000000 in
theorem prd_1 (c a m k : Int) (o : Bool) (w : World) : Calls Tryd.prog 14 #[.agg #[.int .u16 c, .int .u8 a, .int .u8 m, .int .u8 k, .bool o], .int .i64 1] w fun q_ w' => q_ = .returned (.int .u8 a) ∧ Below w.heap.size w w' := by
  go_enter Tryd.func14, Tryd.ntmps14
  go_wp2
  all_goals exact bodyPost_ret (v := .int .u8 a) (by simp [results, Tryd.results14, go_sem]) rfl ⟨rfl, by first | exact Below.refl _ _ | exact own1 _ _ | exact own2 _ _ _ | exact own3 _ _ _ _ | exact own4 _ _ _ _ _ | exact below_drewN (Below.refl _ _) _⟩
set_option maxHeartbeats 1000000 in
theorem prd_2 (c a m k : Int) (o : Bool) (w : World) : Calls Tryd.prog 14 #[.agg #[.int .u16 c, .int .u8 a, .int .u8 m, .int .u8 k, .bool o], .int .i64 2] w fun q_ w' => q_ = .returned (.int .u8 m) ∧ Below w.heap.size w w' := by
  go_enter Tryd.func14, Tryd.ntmps14
  go_wp2
  all_goals exact bodyPost_ret (v := .int .u8 m) (by simp [results, Tryd.results14, go_sem]) rfl ⟨rfl, by first | exact Below.refl _ _ | exact own1 _ _ | exact own2 _ _ _ | exact own3 _ _ _ _ | exact own4 _ _ _ _ _ | exact below_drewN (Below.refl _ _) _⟩
set_option maxHeartbeats 1000000 in
theorem prd_3 (c a m k : Int) (o : Bool) (hk0 : 0 ≤ k) (hk1 : k < 256) (y : Int) (hy : 248 + k % 8 = y) (w : World) : Calls Tryd.prog 14 #[.agg #[.int .u16 c, .int .u8 a, .int .u8 m, .int .u8 k, .bool o], .int .i64 3] w fun q_ w' => q_ = .returned (.int .u8 y) ∧ Below w.heap.size w w' := by
  have e1 := or248 k hk0 hk1
  rw [hy] at e1
  go_enter Tryd.func14, Tryd.ntmps14
  go_wp2
  all_goals exact bodyPost_ret (v := .int .u8 y) (by simp [results, Tryd.results14, go_sem]) rfl ⟨rfl, by first | exact Below.refl _ _ | exact own1 _ _ | exact own2 _ _ _ | exact own3 _ _ _ _ | exact own4 _ _ _ _ _ | exact below_drewN (Below.refl _ _) _⟩
set_option maxHeartbeats 1000000 in
theorem prd_4 (c a m k : Int) (o : Bool) (n : Int) (g0 : ¬ n = 0) (g1 : ¬ n = 1) (g2 : ¬ n = 2) (g3 : ¬ n = 3) (w : World) : Calls Tryd.prog 14 #[.agg #[.int .u16 c, .int .u8 a, .int .u8 m, .int .u8 k, .bool o], .int .i64 n] w fun q_ w' => q_ = .returned (.int .u8 255) ∧ Below w.heap.size w w' := by
  go_enter Tryd.func14, Tryd.ntmps14
  go_wp2
  all_goals exact bodyPost_ret (v := .int .u8 255) (by simp [results, Tryd.results14, go_sem]) rfl ⟨rfl, by first | exact Below.refl _ _ | exact own1 _ _ | exact own2 _ _ _ | exact own3 _ _ _ _ | exact own4 _ _ _ _ _ | exact below_drewN (Below.refl _ _) _⟩
theorem prd_c (v : TV) (n y : Int) (hv : v.ok) (hy : readV v n = y) (w : World) : Calls Tryd.prog 14 #[.agg #[.int .u16 v.c, .int .u8 v.a, .int .u8 v.m, .int .u8 v.k, .bool v.o], .int .i64 n] w fun q_ w' => q_ = .returned (.int .u8 y) ∧ Below w.heap.size w w' := by
  obtain ⟨c, a, m, k, o⟩ := v
  obtain ⟨⟨h1, h2⟩, _, _, h7, h8⟩ := hv
  unfold readV at hy
  dsimp only at hy h1 h2 h7 h8 ⊢
  by_cases g0 : n = 0
  · rw [if_pos g0] at hy; subst g0; exact prd_0 c a m k o h1 h2 h7 h8 y hy w
  rw [if_neg g0] at hy
  by_cases g1 : n = 1
  · rw [if_pos g1] at hy; subst g1; subst hy; exact prd_1 c a m k o w
  rw [if_neg g1] at hy
  by_cases g2 : n = 2
  · rw [if_pos g2] at hy; subst g2; subst hy; exact prd_2 c a m k o w
  rw [if_neg g2] at hy
  by_cases g3 : n = 3
  · rw [if_pos g3] at hy; subst g3; exact prd_3 c a m k o h7 h8 y hy w
  rw [if_neg g3] at hy
  subst hy
  exact prd_4 c a m k o n g0 g1 g2 g3 w
set_option maxHeartbeats 1000000 in
theorem drd_0 (c a m k : Int) (o : Bool) (hc0 : 0 ≤ c) (hc1 : c < 65536) (hk0 : 0 ≤ k) (hk1 : k < 256) (y : Int) (hy : c / 256 = y) (w : World) : Calls Tryd.prog 15 #[.agg #[.int .u16 c, .int .u8 a, .int .u8 m, .int .u8 k, .bool o], .int .i64 0] w fun q_ w' => q_ = .returned (.int .u8 y) ∧ Below w.heap.size w w' := by
  have y0 : 0 ≤ y := by omega
  have y1 : y < 256 := by omega
  have e1 : IntKind.u16.wrap (c.tdiv 256) % 256 = y := by rw [Int.tdiv_eq_ediv_of_nonneg hc0, IntKind.wrap_u16]; omega
  go_enter Tryd.func15, Tryd.ntmps15
  go_wp2
  all_goals exact bodyPost_ret (v := .int .u8 y) (by simp [results, Tryd.results15, go_sem, e1]) rfl ⟨rfl, by first | exact Below.refl _ _ | exact own1 _ _ | exact own2 _ _ _ | exact own3 _ _ _ _ | exact own4 _ _ _ _ _ | exact below_drewN (Below.refl _ _) _⟩
set_option maxHeartbeats 1000000 in
theorem drd_1 (c a m k : Int) (o : Bool) (w : World) : Calls Tryd.prog 15 #[.agg #[.int .u16 c, .int .u8 a, .int .u8 m, .int .u8 k, .bool o], .int .i64 1] w fun q_ w' => q_ = .returned (.int .u8 a) ∧ Below w.heap.size w w' := by
  go_enter Tryd.func15, Tryd.ntmps15
  go_wp2
  all_goals exact bodyPost_ret (v := .int .u8 a) (by simp [results, Tryd.results15, go_sem]) rfl ⟨rfl, by first | exact Below.refl _ _ | exact own1 _ _ | exact own2 _ _ _ | exact own3 _ _ _ _ | exact own4 _ _ _ _ _ | exact below_drewN (Below.refl _ _) _⟩
set_option maxHeartbeats 1000000 in
theorem drd_2 (c a m k : Int) (o : Bool) (w : World) : Calls Tryd.prog 15 #[.agg #[.int .u16 c, .int .u8 a, .int .u8 m, .int .u8 k, .bool o], .int .i64 2] w fun q_ w' => q_ = .returned (.int .u8 m) ∧ Below w.heap.size w w' := by
  go_enter Tryd.func15, Tryd.ntmps15
  go_wp2
  all_goals exact bodyPost_ret (v := .int .u8 m) (by simp [results, Tryd.results15, go_sem]) rfl ⟨rfl, by first | exact Below.refl _ _ | exact own1 _ _ | exact own2 _ _ _ | exact own3 _ _ _ _ | exact own4 _ _ _ _ _ | exact below_drewN (Below.refl _ _) _⟩
set_option maxHeartbeats 1000000 in
theorem drd_3 (c a m k : Int) (o : Bool) (hk0 : 0 ≤ k) (hk1 : k < 256) (y : Int) (hy : 248 + k % 8 = y) (w : World) : Calls Tryd.prog 15 #[.agg #[.int .u16 c, .int .u8 a, .int .u8 m, .int .u8 k, .bool o], .int .i64 3] w fun q_ w' => q_ = .returned (.int .u8 y) ∧ Below w.heap.size w w' := by
  have e1 : k % 8 < 8 := by omega
  have e0 : 0 ≤ k % 8 := by omega
  go_enter Tryd.func15, Tryd.ntmps15
  go_wp2
  all_goals exact bodyPost_ret (v := .int .u8 y) (by simp [results, Tryd.results15, go_sem]) rfl ⟨rfl, by first | exact Below.refl _ _ | exact own1 _ _ | exact own2 _ _ _ | exact own3 _ _ _ _ | exact own4 _ _ _ _ _ | exact below_drewN (Below.refl _ _) _⟩
set_option maxHeartbeats 1000000 in
theorem drd_4 (c a m k : Int) (o : Bool) (n : Int) (g0 : ¬ n = 0) (g1 : ¬ n = 1) (g2 : ¬ n = 2) (g3 : ¬ n = 3) (w : World) : Calls Tryd.prog 15 #[.agg #[.int .u16 c, .int .u8 a, .int .u8 m, .int .u8 k, .bool o], .int .i64 n] w fun q_ w' => q_ = .returned (.int .u8 255) ∧ Below w.heap.size w w' := by
  go_enter Tryd.func15, Tryd.ntmps15
  go_wp2
  all_goals exact bodyPost_ret (v := .int .u8 255) (by simp [results, Tryd.results15, go_sem]) rfl ⟨rfl, by first | exact Below.refl _ _ | exact own1 _ _ | exact own2 _ _ _ | exact own3 _ _ _ _ | exact own4 _ _ _ _ _ | exact below_drewN (Below.refl _ _) _⟩
theorem drd_c (v : TV) (n y : Int) (hv : v.ok) (hy : readV v n = y) (w : World) : Calls Tryd.prog 15 #[.agg #[.int .u16 v.c, .int .u8 v.a, .int .u8 v.m, .int .u8 v.k, .bool v.o], .int .i64 n] w fun q_ w' => q_ = .returned (.int .u8 y) ∧ Below w.heap.size w w' := by
  obtain ⟨c, a, m, k, o⟩ := v
  obtain ⟨⟨h1, h2⟩, _, _, h7, h8⟩ := hv
  unfold readV at hy
  dsimp only at hy h1 h2 h7 h8 ⊢
  by_cases g0 : n = 0
  · rw [if_pos g0] at hy; subst g0; exact drd_0 c a m k o h1 h2 h7 h8 y hy w
  rw [if_neg g0] at hy
  by_cases g1 : n = 1
  · rw [if_pos g1] at hy; subst g1; subst hy; exact drd_1 c a m k o w
  rw [if_neg g1] at hy
  by_cases g2 : n = 2
  · rw [if_pos g2] at hy; subst g2; subst hy; exact drd_2 c a m k o w
  rw [if_neg g2] at hy
  by_cases g3 : n = 3
  · rw [if_pos g3] at hy; subst g3; exact drd_3 c a m k o h7 h8 y hy w
  rw [if_neg g3] at hy
  subst hy
  exact drd_4 c a m k o n g0 g1 g2 g3 w
end Go.Proofs.YtjjmnjkmfkcdoaaDoor
