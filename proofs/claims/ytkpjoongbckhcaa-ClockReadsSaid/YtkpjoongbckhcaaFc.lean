/-
  The small functions, their ways put together: for every clock; no condition but that it is one.
-/
import Derived.Test.YtkpjoongbckhcaaFp
import Derived.Test.YtkpjoongbckhcaaFr
import Derived.Deep.Cut
namespace Go.Proofs.Ytkpjoongbckhcaa
open Go.ChangeShapes Go.WideShapes Go.ChangeAt Go.RowKit
set_option linter.unusedVariables false
set_option linter.unusedSimpArgs false
set_option maxRecDepth 100000
theorem count64_c (x t X Y : Int) (hx : 0 ≤ x) (hx2 : x < 256) (ht : 0 ≤ t) (ht2 : t ≤ 1099511627776) (e1 : cntX x t 64 60 = X) (e2 : cntN x t 64 60 = Y) (w : World) : Calls Try.prog 25 #[.int .u8 x, .int .i64 t, .int .i64 64, .int .i64 60] w fun e w' => e = .returned (.tuple #[.int .u8 X, .int .i64 Y]) ∧ Below w.heap.size w w' := by
  unfold cntX at e1
  unfold cntN at e2
  by_cases a0 : t = 0
  · rw [if_pos a0] at e1 e2
    subst a0 e1 e2
    exact count64_0 x hx hx2 w
  rw [if_neg a0] at e1 e2
  by_cases a1 : 60 ≤ x % 64
  · rw [if_pos a1] at e1 e2
    by_cases a2 : x % 64 + t < 64
    · rw [if_pos a2] at e1 e2
      subst e2
      exact count64_1 x t _ X hx hx2 (by omega) ht2 rfl e1 a1 (by omega) w
    · rw [if_neg a2] at e1 e2
      exact count64_2 x t _ _ _ X Y hx hx2 (by omega) ht2 rfl rfl rfl a1 (by omega) e1 e2 w
  · rw [if_neg a1] at e1 e2
    exact count64_3 x t _ _ X Y hx hx2 (by omega) ht2 rfl rfl (by omega) e1 e2 w
theorem count32_c (x t X Y : Int) (hx : 0 ≤ x) (hx2 : x < 256) (ht : 0 ≤ t) (ht2 : t ≤ 1099511627776) (e1 : cntX x t 32 24 = X) (e2 : cntN x t 32 24 = Y) (w : World) : Calls Try.prog 25 #[.int .u8 x, .int .i64 t, .int .i64 32, .int .i64 24] w fun e w' => e = .returned (.tuple #[.int .u8 X, .int .i64 Y]) ∧ Below w.heap.size w w' := by
  unfold cntX at e1
  unfold cntN at e2
  by_cases a0 : t = 0
  · rw [if_pos a0] at e1 e2
    subst a0 e1 e2
    exact count32_0 x hx hx2 w
  rw [if_neg a0] at e1 e2
  by_cases a1 : 24 ≤ x % 32
  · rw [if_pos a1] at e1 e2
    by_cases a2 : x % 32 + t < 32
    · rw [if_pos a2] at e1 e2
      subst e2
      exact count32_1 x t _ X hx hx2 (by omega) ht2 rfl e1 a1 (by omega) w
    · rw [if_neg a2] at e1 e2
      exact count32_2 x t _ _ _ X Y hx hx2 (by omega) ht2 rfl rfl rfl a1 (by omega) e1 e2 w
  · rw [if_neg a1] at e1 e2
    exact count32_3 x t _ _ X Y hx hx2 (by omega) ht2 rfl rfl (by omega) e1 e2 w
theorem pd_c (s m h day sub : Int) (halt carry : Bool) (a b c d e : Int) (k D : Int) (C : Bool) (hd : 0 ≤ day) (hd2 : day < 512) (hk : 0 ≤ k) (hk2 : k ≤ 1099511627776) (e1 : dayD day k = D) (e2 : dayC day k carry = C) (w : World) : Calls Try.prog 26 #[.agg #[.int .u8 s, .int .u8 m, .int .u8 h, .int .i64 day, .int .i64 sub, .bool halt, .bool carry, .int .u8 a, .int .u8 b, .int .u8 c, .int .u8 d, .int .u8 e], .int .i64 k] w fun q_ w' => q_ = .returned (.agg #[.int .u8 s, .int .u8 m, .int .u8 h, .int .i64 D, .int .i64 sub, .bool halt, .bool C, .int .u8 a, .int .u8 b, .int .u8 c, .int .u8 d, .int .u8 e]) ∧ Below w.heap.size w w' := by
  unfold dayD at e1
  unfold dayC at e2
  by_cases a0 : 512 ≤ day + k
  · rw [if_pos a0] at e1 e2
    subst e2
    exact pd_1 s m h day sub halt carry a b c d e k hk hk2 _ D hd hd2 rfl a0 e1 w
  · rw [if_neg a0] at e1 e2
    subst e2
    exact pd_0 s m h day sub halt carry a b c d e k hk hk2 D hd hd2 e1 (by omega) w
theorem bits_c (c : CV) (x : Int) (hd : 0 ≤ c.day) (hd2 : c.day < 512) (hx : bitsV c = x) (w : World) : Calls Try.prog 22 #[.agg #[.int .u8 c.s, .int .u8 c.m, .int .u8 c.h, .int .i64 c.day, .int .i64 c.sub, .bool c.halt, .bool c.carry, .int .u8 c.a, .int .u8 c.b, .int .u8 c.c, .int .u8 c.d, .int .u8 c.e]] w fun e w' => e = .returned (.int .u8 x) ∧ Below w.heap.size w w' := by
  obtain ⟨s, m, h, day, sub, halt, carry, a, b, c, d, e⟩ := c
  unfold bitsV bV at hx
  dsimp only at hx hd hd2 ⊢
  have q : day / 256 % 2 = 0 ∨ day / 256 % 2 = 1 := by omega
  rcases q with g | g
  · rw [g] at hx
    cases halt
    · cases carry
      · obtain rfl : x = 0 := by rw [← hx]; rfl
        exact bits_7 s m h day sub a b c d e hd hd2 g w
      · obtain rfl : x = 128 := by rw [← hx]; rfl
        exact bits_5 s m h day sub a b c d e hd hd2 g w
    · cases carry
      · obtain rfl : x = 64 := by rw [← hx]; rfl
        exact bits_6 s m h day sub a b c d e hd hd2 g w
      · obtain rfl : x = 192 := by rw [← hx]; rfl
        exact bits_4 s m h day sub a b c d e hd hd2 g w
  · rw [g] at hx
    cases halt
    · cases carry
      · obtain rfl : x = 1 := by rw [← hx]; rfl
        exact bits_3 s m h day sub a b c d e hd hd2 g w
      · obtain rfl : x = 129 := by rw [← hx]; rfl
        exact bits_1 s m h day sub a b c d e hd hd2 g w
    · cases carry
      · obtain rfl : x = 65 := by rw [← hx]; rfl
        exact bits_2 s m h day sub a b c d e hd hd2 g w
      · obtain rfl : x = 193 := by rw [← hx]; rfl
        exact bits_0 s m h day sub a b c d e hd hd2 g w
theorem read_c (c : CV) (n x : Int) (hx : readV c n = x) (w : World) : Calls Try.prog 12 #[.agg #[.int .u8 c.s, .int .u8 c.m, .int .u8 c.h, .int .i64 c.day, .int .i64 c.sub, .bool c.halt, .bool c.carry, .int .u8 c.a, .int .u8 c.b, .int .u8 c.c, .int .u8 c.d, .int .u8 c.e], .int .i64 n] w fun e w' => e = .returned (.int .u8 x) ∧ Below w.heap.size w w' := by
  unfold readV at hx
  by_cases a0 : n = 0
  · rw [if_pos a0] at hx; subst a0; subst hx; exact read_0 c.s c.m c.h c.day c.sub c.halt c.carry c.a c.b c.c c.d c.e w
  rw [if_neg a0] at hx
  by_cases a1 : n = 1
  · rw [if_pos a1] at hx; subst a1; subst hx; exact read_1 c.s c.m c.h c.day c.sub c.halt c.carry c.a c.b c.c c.d c.e w
  rw [if_neg a1] at hx
  by_cases a2 : n = 2
  · rw [if_pos a2] at hx; subst a2; subst hx; exact read_2 c.s c.m c.h c.day c.sub c.halt c.carry c.a c.b c.c c.d c.e w
  rw [if_neg a2] at hx
  by_cases a3 : n = 3
  · rw [if_pos a3] at hx; subst a3; subst hx; exact read_3 c.s c.m c.h c.day c.sub c.halt c.carry c.a c.b c.c c.d c.e w
  rw [if_neg a3] at hx
  by_cases a4 : n = 4
  · rw [if_pos a4] at hx; subst a4; subst hx; exact read_4 c.s c.m c.h c.day c.sub c.halt c.carry c.a c.b c.c c.d c.e w
  rw [if_neg a4] at hx
  subst hx
  by_cases b0 : n < 0
  · exact read_5 c.s c.m c.h c.day c.sub c.halt c.carry c.a c.b c.c c.d c.e n b0 w
  · exact read_6 c.s c.m c.h c.day c.sub c.halt c.carry c.a c.b c.c c.d c.e n (by omega) w
theorem rread_c (c : CV) (n x : Int) (hx : readV c n = x) (w : World) : Calls Try.prog 13 #[.agg #[.int .u8 c.s, .int .u8 c.m, .int .u8 c.h, .int .i64 c.day, .int .i64 c.sub, .bool c.halt, .bool c.carry, .int .u8 c.a, .int .u8 c.b, .int .u8 c.c, .int .u8 c.d, .int .u8 c.e], .int .i64 n] w fun e w' => e = .returned (.int .u8 x) ∧ Below w.heap.size w w' := by
  unfold readV at hx
  by_cases a0 : n = 0
  · rw [if_pos a0] at hx; subst a0; subst hx; exact rread_0 c.s c.m c.h c.day c.sub c.halt c.carry c.a c.b c.c c.d c.e w
  rw [if_neg a0] at hx
  by_cases a1 : n = 1
  · rw [if_pos a1] at hx; subst a1; subst hx; exact rread_1 c.s c.m c.h c.day c.sub c.halt c.carry c.a c.b c.c c.d c.e w
  rw [if_neg a1] at hx
  by_cases a2 : n = 2
  · rw [if_pos a2] at hx; subst a2; subst hx; exact rread_2 c.s c.m c.h c.day c.sub c.halt c.carry c.a c.b c.c c.d c.e w
  rw [if_neg a2] at hx
  by_cases a3 : n = 3
  · rw [if_pos a3] at hx; subst a3; subst hx; exact rread_3 c.s c.m c.h c.day c.sub c.halt c.carry c.a c.b c.c c.d c.e w
  rw [if_neg a3] at hx
  by_cases a4 : n = 4
  · rw [if_pos a4] at hx; subst a4; subst hx; exact rread_4 c.s c.m c.h c.day c.sub c.halt c.carry c.a c.b c.c c.d c.e w
  rw [if_neg a4] at hx
  subst hx
  by_cases b0 : n < 0
  · exact rread_5 c.s c.m c.h c.day c.sub c.halt c.carry c.a c.b c.c c.d c.e n b0 w
  · exact rread_6 c.s c.m c.h c.day c.sub c.halt c.carry c.a c.b c.c c.d c.e n (by omega) w
theorem write_c (c R : CV) (n x : Int) (hc : c.ok) (hx : 0 ≤ x) (hx2 : x < 256) (hR : wrV c n x = R) (w : World) : Calls Try.prog 15 #[.agg #[.int .u8 c.s, .int .u8 c.m, .int .u8 c.h, .int .i64 c.day, .int .i64 c.sub, .bool c.halt, .bool c.carry, .int .u8 c.a, .int .u8 c.b, .int .u8 c.c, .int .u8 c.d, .int .u8 c.e], .int .i64 n, .int .u8 x] w fun e w' => e = .returned (.agg #[.int .u8 R.s, .int .u8 R.m, .int .u8 R.h, .int .i64 R.day, .int .i64 R.sub, .bool R.halt, .bool R.carry, .int .u8 R.a, .int .u8 R.b, .int .u8 R.c, .int .u8 R.d, .int .u8 R.e]) ∧ Below w.heap.size w w' := by
  obtain ⟨_, _, _, ⟨hd, hd2⟩, _⟩ := hc
  unfold wrV at hR
  by_cases a0 : n = 0
  · rw [if_pos a0] at hR; subst a0; subst hR; exact write_0 c.s c.m c.h c.day c.sub c.halt c.carry c.a c.b c.c c.d c.e x hx hx2 w
  rw [if_neg a0] at hR
  by_cases a1 : n = 1
  · rw [if_pos a1] at hR; subst a1; subst hR; exact write_1 c.s c.m c.h c.day c.sub c.halt c.carry c.a c.b c.c c.d c.e x hx hx2 w
  rw [if_neg a1] at hR
  by_cases a2 : n = 2
  · rw [if_pos a2] at hR; subst a2; subst hR; exact write_2 c.s c.m c.h c.day c.sub c.halt c.carry c.a c.b c.c c.d c.e x hx hx2 w
  rw [if_neg a2] at hR
  by_cases a3 : n = 3
  · rw [if_pos a3] at hR; subst a3; subst hR; exact write_3 c.s c.m c.h c.day c.sub c.halt c.carry c.a c.b c.c c.d c.e x hx hx2 _ hd hd2 rfl w
  rw [if_neg a3] at hR
  by_cases a4 : n = 4
  · rw [if_pos a4] at hR; subst a4; subst hR
    have q2 : x / 64 % 2 = 0 ∨ x / 64 % 2 = 1 := by omega
    have q3 : x / 128 = 0 ∨ x / 128 = 1 := by omega
    have q1 : x % 2 = 0 ∨ x % 2 = 1 := by omega
    rcases q1 with g1 | g1
    · rcases q2 with g2 | g2
      · rcases q3 with g3 | g3
        · rw [g1, g2, g3]; exact write_4_0 c.s c.m c.h c.day c.sub c.halt c.carry c.a c.b c.c c.d c.e x hx hx2 (0 * 256 + c.day % 256) _ hd hd2 (by omega) g1 g2 g3 rfl w
        · rw [g1, g2, g3]; exact write_4_4 c.s c.m c.h c.day c.sub c.halt c.carry c.a c.b c.c c.d c.e x hx hx2 (0 * 256 + c.day % 256) _ hd hd2 (by omega) g1 g2 g3 rfl w
      · rcases q3 with g3 | g3
        · rw [g1, g2, g3]; exact write_4_2 c.s c.m c.h c.day c.sub c.halt c.carry c.a c.b c.c c.d c.e x hx hx2 (0 * 256 + c.day % 256) _ hd hd2 (by omega) g1 g2 g3 rfl w
        · rw [g1, g2, g3]; exact write_4_6 c.s c.m c.h c.day c.sub c.halt c.carry c.a c.b c.c c.d c.e x hx hx2 (0 * 256 + c.day % 256) _ hd hd2 (by omega) g1 g2 g3 rfl w
    · rcases q2 with g2 | g2
      · rcases q3 with g3 | g3
        · rw [g1, g2, g3]; exact write_4_1 c.s c.m c.h c.day c.sub c.halt c.carry c.a c.b c.c c.d c.e x hx hx2 (c.day % 256) _ hd hd2 rfl g1 g2 g3 rfl w
        · rw [g1, g2, g3]; exact write_4_5 c.s c.m c.h c.day c.sub c.halt c.carry c.a c.b c.c c.d c.e x hx hx2 (c.day % 256) _ hd hd2 rfl g1 g2 g3 rfl w
      · rcases q3 with g3 | g3
        · rw [g1, g2, g3]; exact write_4_3 c.s c.m c.h c.day c.sub c.halt c.carry c.a c.b c.c c.d c.e x hx hx2 (c.day % 256) _ hd hd2 rfl g1 g2 g3 rfl w
        · rw [g1, g2, g3]; exact write_4_7 c.s c.m c.h c.day c.sub c.halt c.carry c.a c.b c.c c.d c.e x hx hx2 (c.day % 256) _ hd hd2 rfl g1 g2 g3 rfl w
  rw [if_neg a4] at hR
  subst hR
  exact write_5 c.s c.m c.h c.day c.sub c.halt c.carry c.a c.b c.c c.d c.e x hx hx2 n a0 a1 a2 a3 a4 w
theorem rwrite_c (c R : CV) (n x : Int) (hc : c.ok) (hx : 0 ≤ x) (hx2 : x < 256) (hR : wrV c n x = R) (w : World) : Calls Try.prog 18 #[.agg #[.int .u8 c.s, .int .u8 c.m, .int .u8 c.h, .int .i64 c.day, .int .i64 c.sub, .bool c.halt, .bool c.carry, .int .u8 c.a, .int .u8 c.b, .int .u8 c.c, .int .u8 c.d, .int .u8 c.e], .int .i64 n, .int .u8 x] w fun e w' => e = .returned (.agg #[.int .u8 R.s, .int .u8 R.m, .int .u8 R.h, .int .i64 R.day, .int .i64 R.sub, .bool R.halt, .bool R.carry, .int .u8 R.a, .int .u8 R.b, .int .u8 R.c, .int .u8 R.d, .int .u8 R.e]) ∧ Below w.heap.size w w' := by
  obtain ⟨_, _, _, ⟨hd, hd2⟩, _⟩ := hc
  unfold wrV at hR
  by_cases a0 : n = 0
  · rw [if_pos a0] at hR; subst a0; subst hR; exact rwrite_0 c.s c.m c.h c.day c.sub c.halt c.carry c.a c.b c.c c.d c.e x hx hx2 w
  rw [if_neg a0] at hR
  by_cases a1 : n = 1
  · rw [if_pos a1] at hR; subst a1; subst hR; exact rwrite_1 c.s c.m c.h c.day c.sub c.halt c.carry c.a c.b c.c c.d c.e x hx hx2 w
  rw [if_neg a1] at hR
  by_cases a2 : n = 2
  · rw [if_pos a2] at hR; subst a2; subst hR; exact rwrite_2 c.s c.m c.h c.day c.sub c.halt c.carry c.a c.b c.c c.d c.e x hx hx2 w
  rw [if_neg a2] at hR
  by_cases a3 : n = 3
  · rw [if_pos a3] at hR; subst a3; subst hR; exact rwrite_3 c.s c.m c.h c.day c.sub c.halt c.carry c.a c.b c.c c.d c.e x hx hx2 _ hd hd2 rfl w
  rw [if_neg a3] at hR
  by_cases a4 : n = 4
  · rw [if_pos a4] at hR; subst a4; subst hR
    have q2 : x / 64 % 2 = 0 ∨ x / 64 % 2 = 1 := by omega
    have q3 : x / 128 = 0 ∨ x / 128 = 1 := by omega
    rcases q2 with g2 | g2
    · rcases q3 with g3 | g3
      · rw [g2, g3]; exact rwrite_4_0 c.s c.m c.h c.day c.sub c.halt c.carry c.a c.b c.c c.d c.e x hx hx2 _ hd hd2 g2 g3 rfl w
      · rw [g2, g3]; exact rwrite_4_2 c.s c.m c.h c.day c.sub c.halt c.carry c.a c.b c.c c.d c.e x hx hx2 _ hd hd2 g2 g3 rfl w
    · rcases q3 with g3 | g3
      · rw [g2, g3]; exact rwrite_4_1 c.s c.m c.h c.day c.sub c.halt c.carry c.a c.b c.c c.d c.e x hx hx2 _ hd hd2 g2 g3 rfl w
      · rw [g2, g3]; exact rwrite_4_3 c.s c.m c.h c.day c.sub c.halt c.carry c.a c.b c.c c.d c.e x hx hx2 _ hd hd2 g2 g3 rfl w
  rw [if_neg a4] at hR
  subst hR
  exact rwrite_5 c.s c.m c.h c.day c.sub c.halt c.carry c.a c.b c.c c.d c.e x hx hx2 n a0 a1 a2 a3 a4 w
theorem part_c (c : CV) (n x : Int) (hc : c.ok) (hn : 0 ≤ n ∧ n ≤ 4) (hx : partV c n = x) (w : World) : Calls Try.prog 24 #[.agg #[.int .u8 c.s, .int .u8 c.m, .int .u8 c.h, .int .i64 c.day, .int .i64 c.sub, .bool c.halt, .bool c.carry, .int .u8 c.a, .int .u8 c.b, .int .u8 c.c, .int .u8 c.d, .int .u8 c.e], .int .i64 n] w fun e w' => e = .returned (.int .u8 x) ∧ Below w.heap.size w w' := by
  obtain ⟨_, _, _, ⟨hd, hd2⟩, _⟩ := hc
  unfold partV at hx
  by_cases a0 : n = 0
  · rw [if_pos a0] at hx; subst a0; subst hx; exact part_0 c.s c.m c.h c.day c.sub c.halt c.carry c.a c.b c.c c.d c.e w
  rw [if_neg a0] at hx
  by_cases a1 : n = 1
  · rw [if_pos a1] at hx; subst a1; subst hx; exact part_1 c.s c.m c.h c.day c.sub c.halt c.carry c.a c.b c.c c.d c.e w
  rw [if_neg a1] at hx
  by_cases a2 : n = 2
  · rw [if_pos a2] at hx; subst a2; subst hx; exact part_2 c.s c.m c.h c.day c.sub c.halt c.carry c.a c.b c.c c.d c.e w
  rw [if_neg a2] at hx
  by_cases a3 : n = 3
  · rw [if_pos a3] at hx; subst a3; exact part_3 c.s c.m c.h c.day c.sub c.halt c.carry c.a c.b c.c c.d c.e x hd hd2 hx w
  rw [if_neg a3] at hx
  obtain rfl : n = 4 := by omega
  obtain ⟨s, m, h, day, sub, halt, carry, a, b, c, d, e⟩ := c
  unfold bitsV bV at hx
  dsimp only at hx hd hd2 ⊢
  obtain ⟨y, hy⟩ : ∃ q_, day / 256 % 2 = q_ := ⟨_, rfl⟩
  rw [hy] at hx
  cases halt
  · cases carry
    · have ex : x = y := by rw [← hx]; simp <;> omega
      rw [ex]
      exact part_4_3 s m h day sub a b c d e y hd hd2 hy w
    · have ex : x = y + 128 := by rw [← hx]; simp <;> omega
      rw [ex]
      exact part_4_1 s m h day sub a b c d e y hd hd2 hy w
  · cases carry
    · have ex : x = y + 64 := by rw [← hx]; simp <;> omega
      rw [ex]
      exact part_4_2 s m h day sub a b c d e y hd hd2 hy w
    · have ex : x = y + 192 := by rw [← hx]; simp <;> omega
      rw [ex]
      exact part_4_0 s m h day sub a b c d e y hd hd2 hy w
theorem sec_c (c R : CV) (hc : CV.ok { c with sub := 0 }) (hR : secV c = R) (w : World) : Calls Try.prog 23 #[.agg #[.int .u8 c.s, .int .u8 c.m, .int .u8 c.h, .int .i64 c.day, .int .i64 c.sub, .bool c.halt, .bool c.carry, .int .u8 c.a, .int .u8 c.b, .int .u8 c.c, .int .u8 c.d, .int .u8 c.e]] w fun e w' => e = .returned (.agg #[.int .u8 R.s, .int .u8 R.m, .int .u8 R.h, .int .i64 R.day, .int .i64 R.sub, .bool R.halt, .bool R.carry, .int .u8 R.a, .int .u8 R.b, .int .u8 R.c, .int .u8 R.d, .int .u8 R.e]) ∧ Below w.heap.size w w' := by
  obtain ⟨⟨s0, s1⟩, ⟨m0, m1⟩, ⟨h0, h1⟩, ⟨hd, hd2⟩, _⟩ := hc
  dsimp only at s0 s1 m0 m1 h0 h1 hd hd2
  unfold secV at hR
  have es : (c.s + 1) % 256 % 64 = (c.s + 1) % 64 := by omega
  have em : (c.m + 1) % 256 % 64 = (c.m + 1) % 64 := by omega
  have eh : (c.h + 1) % 256 % 32 = (c.h + 1) % 32 := by omega
  by_cases a0 : (c.s + 1) % 64 = 60
  · rw [if_pos a0] at hR
    by_cases a1 : (c.m + 1) % 64 = 60
    · rw [if_pos a1] at hR
      by_cases a2 : (c.h + 1) % 32 = 24
      · rw [if_pos a2] at hR
        by_cases a3 : c.day + 1 = 512
        · rw [if_pos a3] at hR
          subst hR
          exact sec_4 c.s c.m c.h c.day c.sub c.halt c.carry c.a c.b c.c c.d c.e _ _ rfl es (by omega) (by omega) _ _ rfl em (by omega) (by omega) _ _ rfl eh (by omega) (by omega) s0 s1 m0 m1 h0 h1 hd hd2 a0 a1 a2 a3 w
        · rw [if_neg a3] at hR
          subst hR
          exact sec_3 c.s c.m c.h c.day c.sub c.halt c.carry c.a c.b c.c c.d c.e _ _ rfl es (by omega) (by omega) _ _ rfl em (by omega) (by omega) _ _ rfl eh (by omega) (by omega) s0 s1 m0 m1 h0 h1 hd hd2 a0 a1 a2 a3 w
      · rw [if_neg a2] at hR
        subst hR
        exact sec_2 c.s c.m c.h c.day c.sub c.halt c.carry c.a c.b c.c c.d c.e _ _ rfl es (by omega) (by omega) _ _ rfl em (by omega) (by omega) _ _ rfl eh (by omega) (by omega) s0 s1 m0 m1 h0 h1 a0 a1 a2 w
    · rw [if_neg a1] at hR
      subst hR
      exact sec_1 c.s c.m c.h c.day c.sub c.halt c.carry c.a c.b c.c c.d c.e _ _ rfl es (by omega) (by omega) _ _ rfl em (by omega) (by omega) s0 s1 m0 m1 a0 a1 w
  · rw [if_neg a0] at hR
    subst hR
    exact sec_0 c.s c.m c.h c.day c.sub c.halt c.carry c.a c.b c.c c.d c.e _ _ rfl es (by omega) (by omega) s0 s1 a0 w
end Go.Proofs.Ytkpjoongbckhcaa
