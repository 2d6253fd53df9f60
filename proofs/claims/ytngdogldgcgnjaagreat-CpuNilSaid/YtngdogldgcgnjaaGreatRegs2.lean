/-
  What Get, Set, Pair, SetPair of package regs return, for every set of registers and every number: contracts of the calls, with no condition but that each argument fits its kind.
-/
import Derived.Test.YtngdogldgcgnjaaGreatRegs
namespace Go.Proofs.YtngdogldgcgnjaaGreat.Reg
open Go.ChangeShapes Go.WideShapes Go.ChangeAt Go.RowKit

set_option maxHeartbeats 2000000 in
theorem get_c (r : RR) (n : Int) (w : World) :
  Calls Tryz.prog 107 #[.agg #[.int .u8 r.a, .int .u8 r.f, .int .u8 r.b, .int .u8 r.c, .int .u8 r.d, .int .u8 r.e, .int .u8 r.h, .int .u8 r.l, .int .u16 r.sp, .int .u16 r.pc], .int .i64 n] w fun e w' => e = .returned (.tuple #[.int .u8 (getV r n), .int .i64 (getE n)]) ∧ Below w.heap.size w w' := by
 by_cases hn : n = 0 ∨ n = 1 ∨ n = 2 ∨ n = 3 ∨ n = 4 ∨ n = 5 ∨ n = 7
 ·rcases hn with rfl | rfl | rfl | rfl | rfl | rfl | rfl
  all_goals
   go_enter Tryz.func107, Tryz.ntmps107
   go_wp2_with fail
   refine (place_c w.heap.size _ _).mono ?_
   rintro e w1 ⟨rfl, hb⟩
   obtain ⟨hc, hf⟩ := bcell hb
   have HB := Lib.hid hb; clear hb
   simp only [placeP]
   go_wp2
   go_ret2
   exact ⟨rfl, ((Below.refl _ _).alloc (Nat.le_refl _) _).trans (HB.out.mono (by simp))⟩
 ·have e : getV r n = 0 := by unfold getV; rw [if_neg (by omega), if_neg (by omega), if_neg (by omega), if_neg (by omega), if_neg (by omega), if_neg (by omega), if_neg (by omega)]
  have e' : getE n = 1 := by unfold getE; rw [if_neg hn]
  have e'' : ∀ bl, placeP bl n = none := by intro bl; unfold placeP; rw [if_neg (by omega), if_neg (by omega), if_neg (by omega), if_neg (by omega), if_neg (by omega), if_neg (by omega), if_neg (by omega)]
  have EP := Lib.hid e''
  rw [e, e']; clear e e' e'' hn
  go_enter Tryz.func107, Tryz.ntmps107
  go_wp2_with fail
  refine (place_c w.heap.size _ _).mono ?_
  rintro e w1 ⟨rfl, hb⟩
  have HB := Lib.hid hb; clear hb
  rw [EP.out]
  go_wp2
  go_ret2
  exact ⟨rfl, ((Below.refl _ _).alloc (Nat.le_refl _) _).trans (HB.out.mono (by simp))⟩

theorem two_cells {w w1 : World} {A B : Array Value} {ta tb : TypeId} (hb : Below ((w.alloc (.cells A ta)).alloc (.cells B tb)).heap.size ((w.alloc (.cells A ta)).alloc (.cells B tb)) w1) :
  (∀ o, w1.cell? ⟨w.heap.size, o, none⟩ = A[o]?) ∧ (∀ o, w1.cell? ⟨w.heap.size + 1, o, none⟩ = B[o]?) ∧ (∀ o, w1.frozen? ⟨w.heap.size, o, none⟩ = false) ∧ (∀ o, w1.frozen? ⟨w.heap.size + 1, o, none⟩ = false) := by
 obtain ⟨hc, hf⟩ := bcell hb
 refine ⟨fun o => ?_, fun o => ?_, fun o => ?_, fun o => ?_⟩
 ·rw [hc _ _ (by simp; omega)]; simp [go_sem]
 ·rw [hc _ _ (by simp)]; simp [go_sem]
 ·rw [hf _ _ (by simp; omega)]; simp [go_sem]
 ·rw [hf _ _ (by simp)]; simp [go_sem]

theorem below10 {n : Nat} {w w1 : World} {b : Nat} (h : Below n w w1) (hn : n ≤ b) (v0 v1 v2 v3 v4 v5 v6 v7 v8 v9 : Value) :
  Below n w ((((((((((w1.setCell ⟨b, 0, none⟩ v0).setCell ⟨b, 1, none⟩ v1).setCell ⟨b, 2, none⟩ v2).setCell ⟨b, 3, none⟩ v3).setCell ⟨b, 4, none⟩ v4).setCell ⟨b, 5, none⟩ v5).setCell ⟨b, 6, none⟩ v6).setCell ⟨b, 7, none⟩ v7).setCell ⟨b, 8, none⟩ v8).setCell ⟨b, 9, none⟩ v9) :=
 (((((((((h.setCell hn _).setCell hn _).setCell hn _).setCell hn _).setCell hn _).setCell hn _).setCell hn _).setCell hn _).setCell hn _).setCell hn _
theorem below2 {w w1 : World} {A B : Array Value} {ta tb : TypeId} (hb : Below ((w.alloc (.cells A ta)).alloc (.cells B tb)).heap.size ((w.alloc (.cells A ta)).alloc (.cells B tb)) w1) : Below w.heap.size w w1 :=
 (((Below.refl _ _).alloc (Nat.le_refl _) _).alloc (by simp) _).trans (hb.mono (by simp; omega))

set_option maxHeartbeats 2000000 in
theorem set_c (r : RR) (n x : Int) (w : World) :
  Calls Tryz.prog 106 #[.agg #[.int .u8 r.a, .int .u8 r.f, .int .u8 r.b, .int .u8 r.c, .int .u8 r.d, .int .u8 r.e, .int .u8 r.h, .int .u8 r.l, .int .u16 r.sp, .int .u16 r.pc], .int .i64 n, .int .u8 x] w fun e w' => e = .returned (.tuple #[.agg #[.int .u8 (setR r n x).a, .int .u8 (setR r n x).f, .int .u8 (setR r n x).b, .int .u8 (setR r n x).c, .int .u8 (setR r n x).d, .int .u8 (setR r n x).e, .int .u8 (setR r n x).h, .int .u8 (setR r n x).l, .int .u16 (setR r n x).sp, .int .u16 (setR r n x).pc], .int .i64 (getE n)]) ∧ Below w.heap.size w w' := by
 by_cases hn : n = 0 ∨ n = 1 ∨ n = 2 ∨ n = 3 ∨ n = 4 ∨ n = 5 ∨ n = 7
 ·rcases hn with rfl | rfl | rfl | rfl | rfl | rfl | rfl
  all_goals
   go_enter Tryz.func106, Tryz.ntmps106
   go_wp2_with fail
   refine (place_c w.heap.size _ _).mono ?_
   rintro e w1 ⟨rfl, hb⟩
   obtain ⟨hc0, hc1, hf0, hf1⟩ := two_cells hb
   have HB := Lib.hid hb; clear hb
   simp only [placeP]
   go_wp2
   refine bodyPost_ret (v := .tuple #[.agg #[.int .u8 (setR r _ x).a, .int .u8 (setR r _ x).f, .int .u8 (setR r _ x).b, .int .u8 (setR r _ x).c, .int .u8 (setR r _ x).d, .int .u8 (setR r _ x).e, .int .u8 (setR r _ x).h, .int .u8 (setR r _ x).l, .int .u16 (setR r _ x).sp, .int .u16 (setR r _ x).pc], .int .i64 (getE _)]) ?_ rfl ⟨rfl, ?_⟩
   ·simp [results, Tryz.results106, go_sem, hc1, setR, getE]
   ·exact below10 ((below2 HB.out).setCell (Nat.le_refl _) _) (by omega) _ _ _ _ _ _ _ _ _ _
 ·have e : setR r n x = noR := by unfold setR; rw [if_neg (by omega), if_neg (by omega), if_neg (by omega), if_neg (by omega), if_neg (by omega), if_neg (by omega), if_neg (by omega)]
  have e' : getE n = 1 := by unfold getE; rw [if_neg hn]
  have e'' : ∀ bl, placeP bl n = none := by intro bl; unfold placeP; rw [if_neg (by omega), if_neg (by omega), if_neg (by omega), if_neg (by omega), if_neg (by omega), if_neg (by omega), if_neg (by omega)]
  have EP := Lib.hid e''
  rw [e, e']; clear e e' e'' hn
  go_enter Tryz.func106, Tryz.ntmps106
  go_wp2_with fail
  refine (place_c w.heap.size _ _).mono ?_
  rintro e w1 ⟨rfl, hb⟩
  obtain ⟨hc0, hc1, hf0, hf1⟩ := two_cells hb
  have HB := Lib.hid hb; clear hb
  rw [EP.out]
  go_wp2
  refine bodyPost_ret (v := .tuple #[.agg #[.int .u8 noR.a, .int .u8 noR.f, .int .u8 noR.b, .int .u8 noR.c, .int .u8 noR.d, .int .u8 noR.e, .int .u8 noR.h, .int .u8 noR.l, .int .u16 noR.sp, .int .u16 noR.pc], .int .i64 1]) ?_ rfl ⟨rfl, ?_⟩
  ·simp [results, Tryz.results106, go_sem, hc1, noR]
  ·exact below10 (below2 HB.out) (by omega) _ _ _ _ _ _ _ _ _ _

set_option maxHeartbeats 2000000 in
theorem pair_c (r : RR) (n : Int) (ok : r.ok) (w : World) :
  Calls Tryz.prog 86 #[.agg #[.int .u8 r.a, .int .u8 r.f, .int .u8 r.b, .int .u8 r.c, .int .u8 r.d, .int .u8 r.e, .int .u8 r.h, .int .u8 r.l, .int .u16 r.sp, .int .u16 r.pc], .int .i64 n] w fun e w' => e = .returned (.tuple #[.int .u16 (pairV r n), .int .i64 (pairE n)]) ∧ Below w.heap.size w w' := by
 have hB : ∀ (o : Obj), Below w.heap.size w (w.alloc o) := fun o => (Below.refl _ _).alloc (Nat.le_refl _) _
 have HB := Lib.hid hB; clear hB
 obtain ⟨⟨a1, a2⟩, ⟨f1, f2⟩, ⟨b1, b2⟩, ⟨c1, c2⟩, ⟨d1, d2⟩, ⟨e1, e2⟩, ⟨h1, h2⟩, ⟨l1, l2⟩, _⟩ := ok
 have E4 := Lib.hid (low4 r.f f1 f2)
 by_cases hn : n = 0 ∨ n = 1 ∨ n = 2 ∨ n = 3
 ·rcases hn with rfl | rfl | rfl | rfl
  all_goals
   go_enter Tryz.func86, Tryz.ntmps86
   go_wp2_with (go_at_call 105; (with_reducible refine (word_c _ _ _ (by omega) (by omega) (by omega) (by omega)).mono ?_); rintro e w' ⟨rfl, rfl⟩)
   go_ret2
   exact ⟨rfl, HB.out _⟩
 by_cases n4 : n = 4
 ·subst n4
  clear hn
  go_enter Tryz.func86, Tryz.ntmps86
  go_wp2_with fail
  rw [E4.out]
  refine (word_c _ _ _ (by omega) (by omega) (by omega) (by omega)).mono ?_
  rintro e w' ⟨rfl, rfl⟩
  go_wp2
  go_ret2
  exact ⟨rfl, HB.out _⟩
 have e : pairV r n = 0 := by unfold pairV; rw [if_neg (by omega), if_neg (by omega), if_neg (by omega), if_neg (by omega), if_neg (by omega)]
 have e' : pairE n = 1 := by unfold pairE; rw [if_neg (by omega)]
 obtain ⟨m0, m1, m2, m3⟩ : n ≠ 0 ∧ n ≠ 1 ∧ n ≠ 2 ∧ n ≠ 3 := by omega
 rw [e, e']; clear e e' hn
 go_enter Tryz.func86, Tryz.ntmps86
 go_wp2
 go_ret2
 exact ⟨rfl, HB.out _⟩

set_option maxHeartbeats 2000000 in
theorem setPair_c (r : RR) (n x : Int) (h1 : 0 ≤ x) (h2 : x < 65536) (w : World) :
  Calls Tryz.prog 87 #[.agg #[.int .u8 r.a, .int .u8 r.f, .int .u8 r.b, .int .u8 r.c, .int .u8 r.d, .int .u8 r.e, .int .u8 r.h, .int .u8 r.l, .int .u16 r.sp, .int .u16 r.pc], .int .i64 n, .int .u16 x] w fun e w' => e = .returned (.tuple #[.agg #[.int .u8 (setP r n x).a, .int .u8 (setP r n x).f, .int .u8 (setP r n x).b, .int .u8 (setP r n x).c, .int .u8 (setP r n x).d, .int .u8 (setP r n x).e, .int .u8 (setP r n x).h, .int .u8 (setP r n x).l, .int .u16 (setP r n x).sp, .int .u16 (setP r n x).pc], .int .i64 (pairE n)]) ∧ Below w.heap.size w w' := by
 have E4 := Lib.hid (low4 (x % 256) (by omega) (by omega))
 by_cases hn : n = 0 ∨ n = 1 ∨ n = 2 ∨ n = 3 ∨ n = 4
 ·rcases hn with rfl | rfl | rfl | rfl | rfl
  all_goals
   go_enter Tryz.func87, Tryz.ntmps87
   go_wp2
   refine bodyPost_ret (v := .tuple #[.agg #[.int .u8 (setP r _ x).a, .int .u8 (setP r _ x).f, .int .u8 (setP r _ x).b, .int .u8 (setP r _ x).c, .int .u8 (setP r _ x).d, .int .u8 (setP r _ x).e, .int .u8 (setP r _ x).h, .int .u8 (setP r _ x).l, .int .u16 (setP r _ x).sp, .int .u16 (setP r _ x).pc], .int .i64 (pairE _)]) ?_ rfl ⟨rfl, ?_⟩
   ·simp [results, Tryz.results87, go_sem, setP, pairE, E4.out]
   ·exact ((Below.refl _ _).alloc (Nat.le_refl _) _).alloc (by simp) _
 have e : setP r n x = noR := by unfold setP; rw [if_neg (by omega), if_neg (by omega), if_neg (by omega), if_neg (by omega), if_neg (by omega)]
 have e' : pairE n = 1 := by unfold pairE; rw [if_neg (by omega)]
 obtain ⟨m0, m1, m2, m3, m4⟩ : n ≠ 0 ∧ n ≠ 1 ∧ n ≠ 2 ∧ n ≠ 3 ∧ n ≠ 4 := by omega
 rw [e, e']; clear e e' hn
 go_enter Tryz.func87, Tryz.ntmps87
 go_wp2
 refine bodyPost_ret (v := .tuple #[.agg #[.int .u8 noR.a, .int .u8 noR.f, .int .u8 noR.b, .int .u8 noR.c, .int .u8 noR.d, .int .u8 noR.e, .int .u8 noR.h, .int .u8 noR.l, .int .u16 noR.sp, .int .u16 noR.pc], .int .i64 1]) ?_ rfl ⟨rfl, ?_⟩
 ·simp [results, Tryz.results87, go_sem, noR]
 ·exact ((Below.refl _ _).alloc (Nat.le_refl _) _).alloc (by simp) _

end Go.Proofs.YtngdogldgcgnjaaGreat.Reg
