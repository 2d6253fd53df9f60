/-
  What the document's own functions of layer 2 return, for every set of registers and every number: contracts of the calls, with no condition but that each argument fits its kind.
-/
import Derived.Test.YtiolfmmekcahaaaRegs
import Derived.Deep.QuietTactic
import Derived.BigQuiet
namespace Go.Proofs.Ytiolfmmekcahaaa
open Go.ChangeShapes Go.WideShapes Go.ChangeAt Go.RowKit

set_option maxHeartbeats 2000000 in
theorem get_r (r : RR) (n : Int) (w : World) :
    Calls Try.prog 11 #[.agg #[.int .u8 r.a, .int .u8 r.f, .int .u8 r.b, .int .u8 r.c, .int .u8 r.d, .int .u8 r.e, .int .u8 r.h, .int .u8 r.l, .int .u16 r.sp, .int .u16 r.pc], .int .i64 n] w fun e w' => e = .returned (.tuple #[.int .u8 (getV r n), .int .i64 (getE n)]) ∧ Below w.heap.size w w' := by
  have hB : ∀ (o : Obj), Below w.heap.size w (w.alloc o) := fun o => (Below.refl _ _).alloc (Nat.le_refl _) _
  have HB := Lib.hid hB; clear hB
  by_cases hn : n = 0 ∨ n = 1 ∨ n = 2 ∨ n = 3 ∨ n = 4 ∨ n = 5 ∨ n = 7
  · rcases hn with rfl | rfl | rfl | rfl | rfl | rfl | rfl
    all_goals
      go_enter Try.func11, Try.ntmps11
      go_wp2
      go_ret2
      exact ⟨rfl, HB.out _⟩
  · have e : getV r n = 0 := by unfold getV; rw [if_neg (by omega), if_neg (by omega), if_neg (by omega), if_neg (by omega), if_neg (by omega), if_neg (by omega), if_neg (by omega)]
    have e' : getE n = 1 := by unfold getE; rw [if_neg hn]
    obtain ⟨m0, m1, m2, m3, m4, m5, m7⟩ : n ≠ 0 ∧ n ≠ 1 ∧ n ≠ 2 ∧ n ≠ 3 ∧ n ≠ 4 ∧ n ≠ 5 ∧ n ≠ 7 := by omega
    rw [e, e']; clear e e' hn
    go_enter Try.func11, Try.ntmps11
    go_wp2
    go_ret2
    exact ⟨rfl, HB.out _⟩

set_option maxHeartbeats 2000000 in
theorem set_r (r : RR) (n x : Int) (w : World) :
    Calls Try.prog 17 #[.agg #[.int .u8 r.a, .int .u8 r.f, .int .u8 r.b, .int .u8 r.c, .int .u8 r.d, .int .u8 r.e, .int .u8 r.h, .int .u8 r.l, .int .u16 r.sp, .int .u16 r.pc], .int .i64 n, .int .u8 x] w fun e w' => e = .returned (.tuple #[.agg #[.int .u8 (setR r n x).a, .int .u8 (setR r n x).f, .int .u8 (setR r n x).b, .int .u8 (setR r n x).c, .int .u8 (setR r n x).d, .int .u8 (setR r n x).e, .int .u8 (setR r n x).h, .int .u8 (setR r n x).l, .int .u16 (setR r n x).sp, .int .u16 (setR r n x).pc], .int .i64 (getE n)]) ∧ Below w.heap.size w w' := by
  by_cases hn : n = 0 ∨ n = 1 ∨ n = 2 ∨ n = 3 ∨ n = 4 ∨ n = 5 ∨ n = 7
  · rcases hn with rfl | rfl | rfl | rfl | rfl | rfl | rfl
    all_goals
      go_enter Try.func17, Try.ntmps17
      go_wp2
      refine bodyPost_ret (v := .tuple #[.agg #[.int .u8 (setR r _ x).a, .int .u8 (setR r _ x).f, .int .u8 (setR r _ x).b, .int .u8 (setR r _ x).c, .int .u8 (setR r _ x).d, .int .u8 (setR r _ x).e, .int .u8 (setR r _ x).h, .int .u8 (setR r _ x).l, .int .u16 (setR r _ x).sp, .int .u16 (setR r _ x).pc], .int .i64 (getE _)]) ?_ rfl ⟨rfl, ?_⟩
      · simp [results, Try.results17, go_sem, setR, getE]
      · exact ((Below.refl _ _).alloc (Nat.le_refl _) _).alloc (by simp) _
  · have e : setR r n x = noR := by unfold setR; rw [if_neg (by omega), if_neg (by omega), if_neg (by omega), if_neg (by omega), if_neg (by omega), if_neg (by omega), if_neg (by omega)]
    have e' : getE n = 1 := by unfold getE; rw [if_neg hn]
    obtain ⟨m0, m1, m2, m3, m4, m5, m7⟩ : n ≠ 0 ∧ n ≠ 1 ∧ n ≠ 2 ∧ n ≠ 3 ∧ n ≠ 4 ∧ n ≠ 5 ∧ n ≠ 7 := by omega
    rw [e, e']; clear e e' hn
    go_enter Try.func17, Try.ntmps17
    go_wp2
    refine bodyPost_ret (v := .tuple #[.agg #[.int .u8 noR.a, .int .u8 noR.f, .int .u8 noR.b, .int .u8 noR.c, .int .u8 noR.d, .int .u8 noR.e, .int .u8 noR.h, .int .u8 noR.l, .int .u16 noR.sp, .int .u16 noR.pc], .int .i64 1]) ?_ rfl ⟨rfl, ?_⟩
    · simp [results, Try.results17, go_sem, noR]
    · exact ((Below.refl _ _).alloc (Nat.le_refl _) _).alloc (by simp) _

set_option maxHeartbeats 2000000 in
theorem pair_r (r : RR) (n : Int) (ok : r.ok) (w : World) :
    Calls Try.prog 13 #[.agg #[.int .u8 r.a, .int .u8 r.f, .int .u8 r.b, .int .u8 r.c, .int .u8 r.d, .int .u8 r.e, .int .u8 r.h, .int .u8 r.l, .int .u16 r.sp, .int .u16 r.pc], .int .i64 n] w fun e w' => e = .returned (.tuple #[.int .u16 (pairV r n), .int .i64 (pairE n)]) ∧ Below w.heap.size w w' := by
  have hB : ∀ (o : Obj), Below w.heap.size w (w.alloc o) := fun o => (Below.refl _ _).alloc (Nat.le_refl _) _
  have HB := Lib.hid hB; clear hB
  obtain ⟨⟨a1, a2⟩, ⟨f1, f2⟩, ⟨b1, b2⟩, ⟨c1, c2⟩, ⟨d1, d2⟩, ⟨e1, e2⟩, ⟨h1, h2⟩, ⟨l1, l2⟩, _⟩ := ok
  have E4 := Lib.hid (low4 r.f f1 f2)
  by_cases hn : n = 0 ∨ n = 1 ∨ n = 2 ∨ n = 3
  · rcases hn with rfl | rfl | rfl | rfl
    all_goals
      go_enter Try.func13, Try.ntmps13
      go_wp2_with (go_at_call 27; (with_reducible refine (word_r _ _ _ (by omega) (by omega) (by omega) (by omega)).mono ?_); rintro e w' ⟨rfl, rfl⟩)
      go_ret2
      exact ⟨rfl, HB.out _⟩
  by_cases n4 : n = 4
  · subst n4
    clear hn
    go_enter Try.func13, Try.ntmps13
    go_wp2_with fail
    refine (word_r _ _ _ (by omega) (by omega) (by omega) (by omega)).mono ?_
    rintro e w' ⟨rfl, rfl⟩
    go_wp2
    go_ret2
    exact ⟨rfl, HB.out _⟩
  have e : pairV r n = 0 := by unfold pairV; rw [if_neg (by omega), if_neg (by omega), if_neg (by omega), if_neg (by omega), if_neg (by omega)]
  have e' : pairE n = 1 := by unfold pairE; rw [if_neg (by omega)]
  obtain ⟨m0, m1, m2, m3⟩ : n ≠ 0 ∧ n ≠ 1 ∧ n ≠ 2 ∧ n ≠ 3 := by omega
  rw [e, e']; clear e e' hn
  go_enter Try.func13, Try.ntmps13
  go_wp2
  go_ret2
  exact ⟨rfl, HB.out _⟩

set_option maxHeartbeats 2000000 in
theorem setPair_r (r : RR) (n x : Int) (h1 : 0 ≤ x) (h2 : x < 65536) (w : World) :
    Calls Try.prog 19 #[.agg #[.int .u8 r.a, .int .u8 r.f, .int .u8 r.b, .int .u8 r.c, .int .u8 r.d, .int .u8 r.e, .int .u8 r.h, .int .u8 r.l, .int .u16 r.sp, .int .u16 r.pc], .int .i64 n, .int .u16 x] w fun e w' => e = .returned (.tuple #[.agg #[.int .u8 (setP r n x).a, .int .u8 (setP r n x).f, .int .u8 (setP r n x).b, .int .u8 (setP r n x).c, .int .u8 (setP r n x).d, .int .u8 (setP r n x).e, .int .u8 (setP r n x).h, .int .u8 (setP r n x).l, .int .u16 (setP r n x).sp, .int .u16 (setP r n x).pc], .int .i64 (pairE n)]) ∧ Below w.heap.size w w' := by
  have E5 := Lib.hid (show IntKind.u16.wrap (x.tdiv 256) % 256 = x / 256 by rw [IntKind.wrap_u16, Int.tdiv_eq_ediv_of_nonneg h1]; omega)
  by_cases hn : n = 0 ∨ n = 1 ∨ n = 2 ∨ n = 3 ∨ n = 4
  · rcases hn with rfl | rfl | rfl | rfl | rfl
    all_goals
      go_enter Try.func19, Try.ntmps19
      go_wp2
      refine bodyPost_ret (v := .tuple #[.agg #[.int .u8 (setP r _ x).a, .int .u8 (setP r _ x).f, .int .u8 (setP r _ x).b, .int .u8 (setP r _ x).c, .int .u8 (setP r _ x).d, .int .u8 (setP r _ x).e, .int .u8 (setP r _ x).h, .int .u8 (setP r _ x).l, .int .u16 (setP r _ x).sp, .int .u16 (setP r _ x).pc], .int .i64 (pairE _)]) ?_ rfl ⟨rfl, ?_⟩
      · simp [results, Try.results19, go_sem, setP, pairE, E5.out]
      · exact ((Below.refl _ _).alloc (Nat.le_refl _) _).alloc (by simp) _
  have e : setP r n x = noR := by unfold setP; rw [if_neg (by omega), if_neg (by omega), if_neg (by omega), if_neg (by omega), if_neg (by omega)]
  have e' : pairE n = 1 := by unfold pairE; rw [if_neg (by omega)]
  obtain ⟨m0, m1, m2, m3, m4⟩ : n ≠ 0 ∧ n ≠ 1 ∧ n ≠ 2 ∧ n ≠ 3 ∧ n ≠ 4 := by omega
  rw [e, e']; clear e e' hn
  go_enter Try.func19, Try.ntmps19
  go_wp2
  refine bodyPost_ret (v := .tuple #[.agg #[.int .u8 noR.a, .int .u8 noR.f, .int .u8 noR.b, .int .u8 noR.c, .int .u8 noR.d, .int .u8 noR.e, .int .u8 noR.h, .int .u8 noR.l, .int .u16 noR.sp, .int .u16 noR.pc], .int .i64 1]) ?_ rfl ⟨rfl, ?_⟩
  · simp [results, Try.results19, go_sem, noR]
  · exact ((Below.refl _ _).alloc (Nat.le_refl _) _).alloc (by simp) _


set_option maxHeartbeats 2000000 in
theorem is_r (r : RR) (n : Int) (h1 : 0 ≤ r.f) (h2 : r.f < 256) (w : World) :
    Calls Try.prog 15 #[.agg #[.int .u8 r.a, .int .u8 r.f, .int .u8 r.b, .int .u8 r.c, .int .u8 r.d, .int .u8 r.e, .int .u8 r.h, .int .u8 r.l, .int .u16 r.sp, .int .u16 r.pc], .int .i64 n] w fun e w' => e = .returned (.bool (isV r n)) ∧ Below w.heap.size w w' := by
  have hB : ∀ (o : Obj), Below w.heap.size w (w.alloc o).drew := fun o => ((Below.refl _ _).alloc (Nat.le_refl _) _).drew
  have HB := Lib.hid hB; clear hB
  by_cases hn : n = 0 ∨ n = 1 ∨ n = 2 ∨ n = 3
  · rcases hn with rfl | rfl | rfl | rfl
    all_goals
      go_enter Try.func15, Try.ntmps15
      go_wp2
      go_region
      go_wp2
      all_goals
        go_ret
        refine ⟨?_, HB.out _⟩
        simp_all [isV]
  obtain ⟨m0, m1, m2, m3⟩ : n ≠ 0 ∧ n ≠ 1 ∧ n ≠ 2 ∧ n ≠ 3 := by omega
  have e4 : isV r n = (n == 4) := by unfold isV; rw [if_neg m0, if_neg m1, if_neg m2, if_neg m3]
  rw [e4]; clear e4 hn
  go_enter Try.func15, Try.ntmps15
  go_wp2
  go_region
  go_wp2
  all_goals
    go_ret
    exact ⟨rfl, HB.out _⟩
end Go.Proofs.Ytiolfmmekcahaaa
