/-
  The walk through TimerReads, its ways put together: for every timer; no condition but that each number fits, and that the table lies as it is laid.
-/
import Derived.Test.YtjjmnjkmfkcdoaaDoorRdsA
import Derived.Test.YtjjmnjkmfkcdoaaDoorRdsB
import Derived.Test.YtjjmnjkmfkcdoaaDoorRdsC
namespace Go.Proofs.YtjjmnjkmfkcdoaaDoor
open Go.ChangeShapes Go.WideShapes Go.ChangeAt Go.RowKit
set_option linter.unusedVariables false
set_option linter.unusedSimpArgs false
set_option maxRecDepth 100000
theorem reads_walk (v : TV) (n x : Nat) (od : Int) (hv : v.ok) (hn0 : n < 256) (hx : x < 256) (hl : -9223372036854775808 ≤ od) (hu : od ≤ 9223372036854775807) (w : World) (hG : Glob w) : Calls Tryd.prog 7 #[.agg #[.int .u16 v.c, .int .u8 v.a, .int .u8 v.m, .int .u8 v.k, .bool v.o], .int .u8 n, .int .u8 x, .int .i64 od] w fun q_ w' => q_ = .returned (.bool true) ∧ Below w.heap.size w w' := by
  obtain ⟨c, a, m, k, o⟩ := v
  obtain ⟨⟨h1, h2⟩, ⟨h3, h4⟩, ⟨h5, h6⟩, h7, h8⟩ := hv
  dsimp only at h1 h2 h3 h4 h5 h6 h7 h8 ⊢
  have ok : TV.ok ⟨c, a, m, k % 8, o⟩ := ⟨⟨h1, h2⟩, ⟨h3, h4⟩, ⟨h5, h6⟩, by dsimp only; omega⟩
  have x0 : 0 ≤ (x : Int) := by omega
  have x1 : (x : Int) < 256 := by omega
  have okR := fun j => wr_ok ok j x x0 x1
  have e3 := fall_c (sigV c (k % 8)) ⟨c, a, m, (x : Int) % 8, o⟩
  have W21 : ∀ W, (¬ (0 ≤ od ∧ od ≤ 3)) → Glob W → Calls Tryd.prog 12 #[.agg #[.int .u16 c, .int .u8 a, .int .u8 m, .int .u8 (k % 8), .bool o], .int .i64 od, .int .u8 x] W fun q_ w' => q_ = .returned (.agg #[.int .u16 c, .int .u8 a, .int .u8 m, .int .u8 (k % 8), .bool o]) ∧ Below W.heap.size W w' := fun W hno hG => pw_c ⟨c, a, m, k % 8, o⟩ ⟨c, a, m, k % 8, o⟩ od x ok x0 x1 (by unfold wrV; rw [if_neg (by omega), if_neg (by omega), if_neg (by omega), if_neg (by omega)]) W hG
  have W15 : ∀ W, (¬ (0 ≤ od ∧ od ≤ 3)) → Calls Tryd.prog 14 #[.agg #[.int .u16 c, .int .u8 a, .int .u8 m, .int .u8 (k % 8), .bool o], .int .i64 od] W fun q_ w' => q_ = .returned (.int .u8 255) ∧ Below W.heap.size W w' := fun W hno => prd_c ⟨c, a, m, k % 8, o⟩ od 255 ok (by unfold readV; rw [if_neg (by omega), if_neg (by omega), if_neg (by omega), if_neg (by omega)]) W
  rcases (by omega : n % 3 = 0 ∨ n % 3 = 1 ∨ n % 3 = 2) with g | g | g
  · have r0 := okR 1
    by_cases o0 : od < 0
    · exact reads_11 c a m k _ o n x od _ _ _ _ _ h7 h8 rfl x0 x1 hn0 g rfl (fun W hG => pw_c ⟨c, a, m, k % 8, o⟩ _ 1 x ok x0 x1 rfl W hG) (fun W => prd_c _ 1 _ r0 rfl W) (fun W => prd_c _ 0 _ r0 rfl W) (fun W => prd_c ⟨c, a, m, k % 8, o⟩ 0 _ ok rfl W) (fun W => prd_c _ 2 _ r0 rfl W) (fun W => prd_c ⟨c, a, m, k % 8, o⟩ 2 _ ok rfl W) (fun W => prd_c _ 3 _ r0 rfl W) (fun W => prd_c ⟨c, a, m, k % 8, o⟩ 3 _ ok rfl W) o0 (fun W => W15 W (by omega)) (fun W hG => W21 W (by omega) hG) w hG
    by_cases o3 : 3 < od
    · exact reads_12 c a m k _ o n x od _ _ _ _ _ h7 h8 rfl x0 x1 hn0 g rfl (fun W hG => pw_c ⟨c, a, m, k % 8, o⟩ _ 1 x ok x0 x1 rfl W hG) (fun W => prd_c _ 1 _ r0 rfl W) (fun W => prd_c _ 0 _ r0 rfl W) (fun W => prd_c ⟨c, a, m, k % 8, o⟩ 0 _ ok rfl W) (fun W => prd_c _ 2 _ r0 rfl W) (fun W => prd_c ⟨c, a, m, k % 8, o⟩ 2 _ ok rfl W) (fun W => prd_c _ 3 _ r0 rfl W) (fun W => prd_c ⟨c, a, m, k % 8, o⟩ 3 _ ok rfl W) o0 o3 (fun W => W15 W (by omega)) (fun W hG => W21 W (by omega) hG) w hG
    · exact reads_10 c a m k _ o n x od _ _ _ _ _ h7 h8 rfl x0 x1 hn0 g rfl (fun W hG => pw_c ⟨c, a, m, k % 8, o⟩ _ 1 x ok x0 x1 rfl W hG) (fun W => prd_c _ 1 _ r0 rfl W) (fun W => prd_c _ 0 _ r0 rfl W) (fun W => prd_c ⟨c, a, m, k % 8, o⟩ 0 _ ok rfl W) (fun W => prd_c _ 2 _ r0 rfl W) (fun W => prd_c ⟨c, a, m, k % 8, o⟩ 2 _ ok rfl W) (fun W => prd_c _ 3 _ r0 rfl W) (fun W => prd_c ⟨c, a, m, k % 8, o⟩ 3 _ ok rfl W) (by omega) (by omega) w hG
  · have r0 := okR 2
    by_cases o0 : od < 0
    · exact reads_21 c a m k _ o n x od _ _ _ _ h7 h8 rfl x0 x1 hn0 g rfl (fun W hG => pw_c ⟨c, a, m, k % 8, o⟩ _ 2 x ok x0 x1 rfl W hG) (fun W => prd_c _ 2 _ r0 rfl W) (fun W => prd_c _ 0 _ r0 rfl W) (fun W => prd_c ⟨c, a, m, k % 8, o⟩ 0 _ ok rfl W) (fun W => prd_c _ 3 _ r0 rfl W) (fun W => prd_c ⟨c, a, m, k % 8, o⟩ 3 _ ok rfl W) o0 (fun W => W15 W (by omega)) (fun W hG => W21 W (by omega) hG) w hG
    by_cases o3 : 3 < od
    · exact reads_22 c a m k _ o n x od _ _ _ _ h7 h8 rfl x0 x1 hn0 g rfl (fun W hG => pw_c ⟨c, a, m, k % 8, o⟩ _ 2 x ok x0 x1 rfl W hG) (fun W => prd_c _ 2 _ r0 rfl W) (fun W => prd_c _ 0 _ r0 rfl W) (fun W => prd_c ⟨c, a, m, k % 8, o⟩ 0 _ ok rfl W) (fun W => prd_c _ 3 _ r0 rfl W) (fun W => prd_c ⟨c, a, m, k % 8, o⟩ 3 _ ok rfl W) o0 o3 (fun W => W15 W (by omega)) (fun W hG => W21 W (by omega) hG) w hG
    · exact reads_20 c a m k _ o n x od _ _ _ _ h7 h8 rfl x0 x1 hn0 g rfl (fun W hG => pw_c ⟨c, a, m, k % 8, o⟩ _ 2 x ok x0 x1 rfl W hG) (fun W => prd_c _ 2 _ r0 rfl W) (fun W => prd_c _ 0 _ r0 rfl W) (fun W => prd_c ⟨c, a, m, k % 8, o⟩ 0 _ ok rfl W) (fun W => prd_c _ 3 _ r0 rfl W) (fun W => prd_c ⟨c, a, m, k % 8, o⟩ 3 _ ok rfl W) (by omega) (by omega) w hG
  · have r0 := okR 3
    have q : wrV ⟨c, a, m, k % 8, o⟩ 3 x = fallV (sigV c (k % 8)) ⟨c, a, m, (x : Int) % 8, o⟩ := rfl
    by_cases o0 : od < 0
    · exact reads_31 c a m k _ o n x od _ _ _ _ h7 h8 rfl x0 x1 hn0 g rfl (fun W hG => pw_c ⟨c, a, m, k % 8, o⟩ _ 3 x ok x0 x1 rfl W hG) (fun W => prd_c _ 3 (248 + (x : Int) % 8) r0 (by rw [q]; show 248 + (fallV _ _).k % 8 = 248 + (x : Int) % 8; rw [e3.2.1]; dsimp only; omega) W) (fun W => prd_c _ 0 _ r0 (by rw [q]; show (fallV _ _).c / 256 = c / 256; rw [e3.1]) W) (fun W => prd_c ⟨c, a, m, k % 8, o⟩ 0 _ ok rfl W) (fun W => prd_c _ 2 _ r0 (by rw [q]; show (fallV _ _).m = m; rw [e3.2.2]) W) (fun W => prd_c ⟨c, a, m, k % 8, o⟩ 2 _ ok rfl W) o0 (fun W => W15 W (by omega)) (fun W hG => W21 W (by omega) hG) w hG
    by_cases o3 : 3 < od
    · exact reads_32 c a m k _ o n x od _ _ _ _ h7 h8 rfl x0 x1 hn0 g rfl (fun W hG => pw_c ⟨c, a, m, k % 8, o⟩ _ 3 x ok x0 x1 rfl W hG) (fun W => prd_c _ 3 (248 + (x : Int) % 8) r0 (by rw [q]; show 248 + (fallV _ _).k % 8 = 248 + (x : Int) % 8; rw [e3.2.1]; dsimp only; omega) W) (fun W => prd_c _ 0 _ r0 (by rw [q]; show (fallV _ _).c / 256 = c / 256; rw [e3.1]) W) (fun W => prd_c ⟨c, a, m, k % 8, o⟩ 0 _ ok rfl W) (fun W => prd_c _ 2 _ r0 (by rw [q]; show (fallV _ _).m = m; rw [e3.2.2]) W) (fun W => prd_c ⟨c, a, m, k % 8, o⟩ 2 _ ok rfl W) o0 o3 (fun W => W15 W (by omega)) (fun W hG => W21 W (by omega) hG) w hG
    · exact reads_30 c a m k _ o n x od _ _ _ _ h7 h8 rfl x0 x1 hn0 g rfl (fun W hG => pw_c ⟨c, a, m, k % 8, o⟩ _ 3 x ok x0 x1 rfl W hG) (fun W => prd_c _ 3 (248 + (x : Int) % 8) r0 (by rw [q]; show 248 + (fallV _ _).k % 8 = 248 + (x : Int) % 8; rw [e3.2.1]; dsimp only; omega) W) (fun W => prd_c _ 0 _ r0 (by rw [q]; show (fallV _ _).c / 256 = c / 256; rw [e3.1]) W) (fun W => prd_c ⟨c, a, m, k % 8, o⟩ 0 _ ok rfl W) (fun W => prd_c _ 2 _ r0 (by rw [q]; show (fallV _ _).m = m; rw [e3.2.2]) W) (fun W => prd_c ⟨c, a, m, k % 8, o⟩ 2 _ ok rfl W) (by omega) (by omega) w hG
end Go.Proofs.YtjjmnjkmfkcdoaaDoor
