/-
  What a write, and a look, of the program and of the document comes to: for every map; no condition but that each number fits.
-/
import Derived.Test.YtafmmffgenolaaaWp
import Derived.Test.YtafmmffgenolaaaWr
import Derived.Test.YtafmmffgenolaaaRdA
import Derived.Test.YtafmmffgenolaaaRdB
import Derived.Test.YtafmmffgenolaaaRdC
namespace Go.Proofs.Ytafmmffgenolaaa
open Go.ChangeShapes Go.WideShapes Go.ChangeAt Go.RowKit
set_option linter.unusedVariables false
set_option linter.unusedSimpArgs false
set_option maxRecDepth 100000
theorem two_cells {w w1 : World} {A B : Array Value} {ta tb : TypeId} (hb : Below ((w.alloc (.cells A ta)).alloc (.cells B tb)).heap.size ((w.alloc (.cells A ta)).alloc (.cells B tb)) w1) :
    (∀ o, w1.cell? ⟨w.heap.size, o, none⟩ = A[o]?) ∧ (∀ o, w1.cell? ⟨w.heap.size + 1, o, none⟩ = B[o]?) ∧ (∀ o, w1.frozen? ⟨w.heap.size, o, none⟩ = false) ∧ (∀ o, w1.frozen? ⟨w.heap.size + 1, o, none⟩ = false) := by
  obtain ⟨hc, hf⟩ := bcell hb
  refine ⟨fun o => ?_, fun o => ?_, fun o => ?_, fun o => ?_⟩
  · rw [hc _ _ (by simp; omega)]; simp [go_sem]
  · rw [hc _ _ (by simp)]; simp [go_sem]
  · rw [hf _ _ (by simp; omega)]; simp [go_sem]
  · rw [hf _ _ (by simp)]; simp [go_sem]
theorem below2 {w w1 : World} {A B : Array Value} {ta tb : TypeId} (hb : Below ((w.alloc (.cells A ta)).alloc (.cells B tb)).heap.size ((w.alloc (.cells A ta)).alloc (.cells B tb)) w1) : Below w.heap.size w w1 :=
  (((Below.refl _ _).alloc (Nat.le_refl _) _).alloc (by simp) _).trans (hb.mono (by simp; omega))
set_option maxHeartbeats 1000000 in
theorem call_1 (n r lo hi la a x : Int) (on mo h : Bool) (R : MV) (w : World) (ha : 0 ≤ a) (ha2 : a < 65536) (C : ∀ W, Calls Try.prog 23 #[.agg #[.int .i64 1, .int .i64 n, .int .i64 r, .bool on, .bool mo, .int .i64 lo, .int .i64 hi, .int .u8 la], .int .u16 (a % 32768), .int .u8 x] W fun e w' => e = .returned (.agg #[.int .i64 R.k, .int .i64 R.n, .int .i64 R.r, .bool R.on, .bool R.mo, .int .i64 R.lo, .int .i64 R.hi, .int .u8 R.la]) ∧ Below W.heap.size W w') : Calls Try.prog 13 #[.agg #[.int .i64 1, .int .i64 n, .int .i64 r, .bool on, .bool mo, .int .i64 lo, .int .i64 hi, .int .u8 la], .int .u16 a, .int .u8 x] w fun e w' => e = .returned (.tuple #[.agg #[.int .i64 R.k, .int .i64 R.n, .int .i64 R.r, .bool R.on, .bool R.mo, .int .i64 R.lo, .int .i64 R.hi, .int .u8 R.la], .bool false]) ∧ Below w.heap.size w w' := by
  have HC := Lib.hid C
  clear C
  go_enter Try.func13, Try.ntmps13
  go_wp2_with fail
  with_reducible refine (HC.out _).mono ?_
  rintro e w1 ⟨rfl, hb⟩
  obtain ⟨hc0, hc1, hf0, hf1⟩ := two_cells hb
  have HB := Lib.hid hb
  clear hb HC
  go_wp2
  refine bodyPost_ret (v := .tuple #[.agg #[.int .i64 R.k, .int .i64 R.n, .int .i64 R.r, .bool R.on, .bool R.mo, .int .i64 R.lo, .int .i64 R.hi, .int .u8 R.la], .bool false]) ?_ rfl ⟨rfl, ?_⟩
  · simp [results, Try.results13, go_sem, hc1]
  · exact set8 (below2 HB.out) _ (by omega) _ _ _ _ _ _ _ _
set_option maxHeartbeats 1000000 in
theorem call_2 (n r lo hi la a x : Int) (on mo h : Bool) (R : MV) (w : World) (ha : 0 ≤ a) (ha2 : a < 65536) (C : ∀ W, Calls Try.prog 24 #[.agg #[.int .i64 2, .int .i64 n, .int .i64 r, .bool on, .bool mo, .int .i64 lo, .int .i64 hi, .int .u8 la], .int .u16 (a % 32768), .int .u8 x] W fun e w' => e = .returned (.agg #[.int .i64 R.k, .int .i64 R.n, .int .i64 R.r, .bool R.on, .bool R.mo, .int .i64 R.lo, .int .i64 R.hi, .int .u8 R.la]) ∧ Below W.heap.size W w') : Calls Try.prog 13 #[.agg #[.int .i64 2, .int .i64 n, .int .i64 r, .bool on, .bool mo, .int .i64 lo, .int .i64 hi, .int .u8 la], .int .u16 a, .int .u8 x] w fun e w' => e = .returned (.tuple #[.agg #[.int .i64 R.k, .int .i64 R.n, .int .i64 R.r, .bool R.on, .bool R.mo, .int .i64 R.lo, .int .i64 R.hi, .int .u8 R.la], .bool false]) ∧ Below w.heap.size w w' := by
  have HC := Lib.hid C
  clear C
  go_enter Try.func13, Try.ntmps13
  go_wp2_with fail
  with_reducible refine (HC.out _).mono ?_
  rintro e w1 ⟨rfl, hb⟩
  obtain ⟨hc0, hc1, hf0, hf1⟩ := two_cells hb
  have HB := Lib.hid hb
  clear hb HC
  go_wp2
  refine bodyPost_ret (v := .tuple #[.agg #[.int .i64 R.k, .int .i64 R.n, .int .i64 R.r, .bool R.on, .bool R.mo, .int .i64 R.lo, .int .i64 R.hi, .int .u8 R.la], .bool false]) ?_ rfl ⟨rfl, ?_⟩
  · simp [results, Try.results13, go_sem, hc1]
  · exact set8 (below2 HB.out) _ (by omega) _ _ _ _ _ _ _ _
set_option maxHeartbeats 1000000 in
theorem call_3 (n r lo hi la a x : Int) (on mo h : Bool) (R : MV) (w : World) (ha : 0 ≤ a) (ha2 : a < 65536) (C : ∀ W, Calls Try.prog 25 #[.agg #[.int .i64 3, .int .i64 n, .int .i64 r, .bool on, .bool mo, .int .i64 lo, .int .i64 hi, .int .u8 la], .int .u16 (a % 32768), .int .u8 x] W fun e w' => e = .returned (.tuple #[.agg #[.int .i64 R.k, .int .i64 R.n, .int .i64 R.r, .bool R.on, .bool R.mo, .int .i64 R.lo, .int .i64 R.hi, .int .u8 R.la], .bool h]) ∧ Below W.heap.size W w') : Calls Try.prog 13 #[.agg #[.int .i64 3, .int .i64 n, .int .i64 r, .bool on, .bool mo, .int .i64 lo, .int .i64 hi, .int .u8 la], .int .u16 a, .int .u8 x] w fun e w' => e = .returned (.tuple #[.agg #[.int .i64 R.k, .int .i64 R.n, .int .i64 R.r, .bool R.on, .bool R.mo, .int .i64 R.lo, .int .i64 R.hi, .int .u8 R.la], .bool h]) ∧ Below w.heap.size w w' := by
  have HC := Lib.hid C
  clear C
  go_enter Try.func13, Try.ntmps13
  go_wp2_with fail
  with_reducible refine (HC.out _).mono ?_
  rintro e w1 ⟨rfl, hb⟩
  obtain ⟨hc0, hc1, hf0, hf1⟩ := two_cells hb
  have HB := Lib.hid hb
  clear hb HC
  go_wp2
  refine bodyPost_ret (v := .tuple #[.agg #[.int .i64 R.k, .int .i64 R.n, .int .i64 R.r, .bool R.on, .bool R.mo, .int .i64 R.lo, .int .i64 R.hi, .int .u8 R.la], .bool h]) ?_ rfl ⟨rfl, ?_⟩
  · simp [results, Try.results13, go_sem, hc1]
  · exact set8 (below2 HB.out) _ (by omega) _ _ _ _ _ _ _ _
set_option maxHeartbeats 1000000 in
theorem call_5 (n r lo hi la a x : Int) (on mo h : Bool) (R : MV) (w : World) (ha : 0 ≤ a) (ha2 : a < 65536) (C : ∀ W, Calls Try.prog 26 #[.agg #[.int .i64 5, .int .i64 n, .int .i64 r, .bool on, .bool mo, .int .i64 lo, .int .i64 hi, .int .u8 la], .int .u16 (a % 32768), .int .u8 x] W fun e w' => e = .returned (.agg #[.int .i64 R.k, .int .i64 R.n, .int .i64 R.r, .bool R.on, .bool R.mo, .int .i64 R.lo, .int .i64 R.hi, .int .u8 R.la]) ∧ Below W.heap.size W w') : Calls Try.prog 13 #[.agg #[.int .i64 5, .int .i64 n, .int .i64 r, .bool on, .bool mo, .int .i64 lo, .int .i64 hi, .int .u8 la], .int .u16 a, .int .u8 x] w fun e w' => e = .returned (.tuple #[.agg #[.int .i64 R.k, .int .i64 R.n, .int .i64 R.r, .bool R.on, .bool R.mo, .int .i64 R.lo, .int .i64 R.hi, .int .u8 R.la], .bool false]) ∧ Below w.heap.size w w' := by
  have HC := Lib.hid C
  clear C
  go_enter Try.func13, Try.ntmps13
  go_wp2_with fail
  with_reducible refine (HC.out _).mono ?_
  rintro e w1 ⟨rfl, hb⟩
  obtain ⟨hc0, hc1, hf0, hf1⟩ := two_cells hb
  have HB := Lib.hid hb
  clear hb HC
  go_wp2
  refine bodyPost_ret (v := .tuple #[.agg #[.int .i64 R.k, .int .i64 R.n, .int .i64 R.r, .bool R.on, .bool R.mo, .int .i64 R.lo, .int .i64 R.hi, .int .u8 R.la], .bool false]) ?_ rfl ⟨rfl, ?_⟩
  · simp [results, Try.results13, go_sem, hc1]
  · exact set8 (below2 HB.out) _ (by omega) _ _ _ _ _ _ _ _
set_option maxHeartbeats 1000000 in
theorem call_0 (n r lo hi la a x : Int) (on mo : Bool) (w : World) (ha : 0 ≤ a) (ha2 : a < 65536) : Calls Try.prog 13 #[.agg #[.int .i64 0, .int .i64 n, .int .i64 r, .bool on, .bool mo, .int .i64 lo, .int .i64 hi, .int .u8 la], .int .u16 a, .int .u8 x] w fun e w' => e = .returned (.tuple #[.agg #[.int .i64 0, .int .i64 n, .int .i64 r, .bool on, .bool mo, .int .i64 lo, .int .i64 hi, .int .u8 la], .bool false]) ∧ Below w.heap.size w w' := by
  go_enter Try.func13, Try.ntmps13
  go_wp2
  exact bodyPost_ret (v := .tuple #[.agg #[.int .i64 0, .int .i64 n, .int .i64 r, .bool on, .bool mo, .int .i64 lo, .int .i64 hi, .int .u8 la], .bool false]) (by simp [results, Try.results13, go_sem]) rfl ⟨rfl, by first | exact Below.refl _ _ | exact own1 _ _ | exact own2 _ _ _ | exact own3 _ _ _ _ | exact own4 _ _ _ _ _⟩
set_option maxHeartbeats 1000000 in
theorem call_4 (n r lo hi la a x : Int) (on mo : Bool) (w : World) (ha : 0 ≤ a) (ha2 : a < 65536) : Calls Try.prog 13 #[.agg #[.int .i64 4, .int .i64 n, .int .i64 r, .bool on, .bool mo, .int .i64 lo, .int .i64 hi, .int .u8 la], .int .u16 a, .int .u8 x] w fun e w' => e = .returned (.tuple #[.agg #[.int .i64 4, .int .i64 n, .int .i64 r, .bool on, .bool mo, .int .i64 lo, .int .i64 hi, .int .u8 la], .bool false]) ∧ Below w.heap.size w w' := by
  go_enter Try.func13, Try.ntmps13
  go_wp2
  exact bodyPost_ret (v := .tuple #[.agg #[.int .i64 4, .int .i64 n, .int .i64 r, .bool on, .bool mo, .int .i64 lo, .int .i64 hi, .int .u8 la], .bool false]) (by simp [results, Try.results13, go_sem]) rfl ⟨rfl, by first | exact Below.refl _ _ | exact own1 _ _ | exact own2 _ _ _ | exact own3 _ _ _ _ | exact own4 _ _ _ _ _⟩
set_option maxHeartbeats 1000000 in
theorem write_c (m R : MV) (a x : Int) (h : Bool) (hm : m.ok) (ha : 0 ≤ a) (ha2 : a < 65536) (hx : 0 ≤ x) (hx2 : x < 256) (e1 : wrV m (a % 32768) x = R) (e2 : heldV m (a % 32768) x = h) (w : World) : Calls Try.prog 13 #[.agg #[.int .i64 m.k, .int .i64 m.n, .int .i64 m.r, .bool m.on, .bool m.mo, .int .i64 m.lo, .int .i64 m.hi, .int .u8 m.la], .int .u16 a, .int .u8 x] w fun e w' => e = .returned (.tuple #[.agg #[.int .i64 R.k, .int .i64 R.n, .int .i64 R.r, .bool R.on, .bool R.mo, .int .i64 R.lo, .int .i64 R.hi, .int .u8 R.la], .bool h]) ∧ Below w.heap.size w w' := by
  subst e1; subst e2
  obtain ⟨k, n, r, on, mo, lo, hi, la⟩ := m
  obtain ⟨⟨k0, k1⟩, ⟨n0, n1⟩, ⟨r0, r1⟩, ⟨l0, l1⟩, ⟨h0, h1⟩, ⟨q0, q1⟩⟩ := hm
  dsimp only at k0 k1 n0 n1 r0 r1 l0 l1 h0 h1 q0 q1 ⊢
  have b0 : 0 ≤ a % 32768 := by omega
  have b1 : a % 32768 < 32768 := by omega
  rcases (by omega : k = 0 ∨ k = 1 ∨ k = 2 ∨ k = 3 ∨ k = 4 ∨ k = 5) with rfl | rfl | rfl | rfl | rfl | rfl
  · skip
    obtain ⟨g0, g1⟩ : 0 ≤ (a % 32768) ∧ (a % 32768) < 32768 := by omega
    have E1 : wrV (⟨0, n, r, on, mo, lo, hi, la⟩ : MV) (a % 32768) x = (⟨0, n, r, on, mo, lo, hi, la⟩ : MV) := by unfold wrV; dsimp only; rw [if_neg (by omega), if_neg (by omega), if_neg (by omega), if_neg (by omega)]
    have E2 : heldV (⟨0, n, r, on, mo, lo, hi, la⟩ : MV) (a % 32768) x = false := by simp [heldV]
    rw [E1, E2]
    exact call_0 n r lo hi la a x on mo w ha ha2
  · skip
    rcases (by omega : (0 ≤ (a % 32768) ∧ (a % 32768) < 8192) ∨ (8192 ≤ (a % 32768) ∧ (a % 32768) < 16384 ∧ x % 32 = 0) ∨ (8192 ≤ (a % 32768) ∧ (a % 32768) < 16384 ∧ x % 32 ≠ 0) ∨ (16384 ≤ (a % 32768) ∧ (a % 32768) < 24576) ∨ (24576 ≤ (a % 32768) ∧ (a % 32768) < 32768)) with ⟨g0, g1⟩ | ⟨g0, g1, gm⟩ | ⟨g0, g1, gm⟩ | ⟨g0, g1⟩ | ⟨g0, g1⟩
    · have E1 : wrV (⟨1, n, r, on, mo, lo, hi, la⟩ : MV) (a % 32768) x = (⟨1, n, r, (x % 16 == 10), mo, lo, hi, la⟩ : MV) := by unfold wrV; dsimp only; rw [if_pos (by omega), if_pos (by omega)]
      have E2 : heldV (⟨1, n, r, on, mo, lo, hi, la⟩ : MV) (a % 32768) x = false := by simp [heldV]
      rw [E1, E2]
      exact call_1 n r lo hi la a x on mo false (⟨1, n, r, (x % 16 == 10), mo, lo, hi, la⟩ : MV) w ha ha2 (fun W => w13_0 1 n r lo hi la (a % 32768) x on mo W b0 (by omega) g0 g1 hx hx2 l0 l1 q0)
    · have s : someV (x % 32) = 1 := by unfold someV; rw [if_pos gm]
      have E1 : wrV (⟨1, n, r, on, mo, lo, hi, la⟩ : MV) (a % 32768) x = (⟨1, n, r, on, mo, 1, hi, la⟩ : MV) := by unfold wrV; dsimp only; rw [if_pos (by omega), if_neg (by omega), if_pos (by omega), s]
      have E2 : heldV (⟨1, n, r, on, mo, lo, hi, la⟩ : MV) (a % 32768) x = false := by simp [heldV]
      rw [E1, E2]
      exact call_1 n r lo hi la a x on mo false (⟨1, n, r, on, mo, 1, hi, la⟩ : MV) w ha ha2 (fun W => w13_1 1 n r lo hi la (a % 32768) x on mo W b0 (by omega) g0 g1 hx hx2 l0 l1 q0 _ rfl gm)
    · have s : someV (x % 32) = x % 32 := by unfold someV; rw [if_neg gm]
      have E1 : wrV (⟨1, n, r, on, mo, lo, hi, la⟩ : MV) (a % 32768) x = (⟨1, n, r, on, mo, (x % 32), hi, la⟩ : MV) := by unfold wrV; dsimp only; rw [if_pos (by omega), if_neg (by omega), if_pos (by omega), s]
      have E2 : heldV (⟨1, n, r, on, mo, lo, hi, la⟩ : MV) (a % 32768) x = false := by simp [heldV]
      rw [E1, E2]
      exact call_1 n r lo hi la a x on mo false (⟨1, n, r, on, mo, (x % 32), hi, la⟩ : MV) w ha ha2 (fun W => w13_2 1 n r lo hi la (a % 32768) x on mo W b0 (by omega) g0 g1 hx hx2 l0 l1 q0 (x % 32) rfl (by omega))
    · have E1 : wrV (⟨1, n, r, on, mo, lo, hi, la⟩ : MV) (a % 32768) x = (⟨1, n, r, on, mo, lo, (x % 4), la⟩ : MV) := by unfold wrV; dsimp only; rw [if_pos (by omega), if_neg (by omega), if_neg (by omega), if_pos (by omega)]
      have E2 : heldV (⟨1, n, r, on, mo, lo, hi, la⟩ : MV) (a % 32768) x = false := by simp [heldV]
      rw [E1, E2]
      exact call_1 n r lo hi la a x on mo false (⟨1, n, r, on, mo, lo, (x % 4), la⟩ : MV) w ha ha2 (fun W => w13_3 1 n r lo hi la (a % 32768) x on mo W b0 (by omega) g0 g1 hx hx2 l0 l1 q0)
    · have E1 : wrV (⟨1, n, r, on, mo, lo, hi, la⟩ : MV) (a % 32768) x = (⟨1, n, r, on, (x % 2 == 1), lo, hi, la⟩ : MV) := by unfold wrV; dsimp only; rw [if_pos (by omega), if_neg (by omega), if_neg (by omega), if_neg (by omega)]
      have E2 : heldV (⟨1, n, r, on, mo, lo, hi, la⟩ : MV) (a % 32768) x = false := by simp [heldV]
      rw [E1, E2]
      exact call_1 n r lo hi la a x on mo false (⟨1, n, r, on, (x % 2 == 1), lo, hi, la⟩ : MV) w ha ha2 (fun W => w13_8 1 n r lo hi la (a % 32768) x on mo W b0 (by omega) g0 g1 hx hx2 l0 l1 q0)
  · skip
    rcases (by omega : (0 ≤ (a % 32768) ∧ (a % 32768) < 16384 ∧ (a % 32768) / 256 % 2 = 0) ∨ (0 ≤ (a % 32768) ∧ (a % 32768) < 16384 ∧ (a % 32768) / 256 % 2 = 1 ∧ x % 16 = 0) ∨ (0 ≤ (a % 32768) ∧ (a % 32768) < 16384 ∧ (a % 32768) / 256 % 2 = 1 ∧ x % 16 ≠ 0) ∨ (16384 ≤ (a % 32768) ∧ (a % 32768) < 32768)) with ⟨g0, g1, g2⟩ | ⟨g0, g1, g2, gm⟩ | ⟨g0, g1, g2, gm⟩ | ⟨g0, g1⟩
    · have E1 : wrV (⟨2, n, r, on, mo, lo, hi, la⟩ : MV) (a % 32768) x = (⟨2, n, r, (x % 16 == 10), mo, lo, hi, la⟩ : MV) := by unfold wrV; dsimp only; rw [if_neg (by omega), if_pos (by omega), if_pos (by omega), if_pos (by omega)]
      have E2 : heldV (⟨2, n, r, on, mo, lo, hi, la⟩ : MV) (a % 32768) x = false := by simp [heldV]
      rw [E1, E2]
      exact call_2 n r lo hi la a x on mo false (⟨2, n, r, (x % 16 == 10), mo, lo, hi, la⟩ : MV) w ha ha2 (fun W => w13_11 2 n r lo hi la (a % 32768) x on mo W b0 (by omega) g0 g1 g2 hx hx2 l0 l1 q0)
    · have s : someV (x % 16) = 1 := by unfold someV; rw [if_pos gm]
      have E1 : wrV (⟨2, n, r, on, mo, lo, hi, la⟩ : MV) (a % 32768) x = (⟨2, n, r, on, mo, 1, hi, la⟩ : MV) := by unfold wrV; dsimp only; rw [if_neg (by omega), if_pos (by omega), if_pos (by omega), if_neg (by omega), s]
      have E2 : heldV (⟨2, n, r, on, mo, lo, hi, la⟩ : MV) (a % 32768) x = false := by simp [heldV]
      rw [E1, E2]
      exact call_2 n r lo hi la a x on mo false (⟨2, n, r, on, mo, 1, hi, la⟩ : MV) w ha ha2 (fun W => w13_12 2 n r lo hi la (a % 32768) x on mo W b0 (by omega) g0 g1 g2 hx hx2 l0 l1 q0 _ rfl gm)
    · have s : someV (x % 16) = x % 16 := by unfold someV; rw [if_neg gm]
      have E1 : wrV (⟨2, n, r, on, mo, lo, hi, la⟩ : MV) (a % 32768) x = (⟨2, n, r, on, mo, (x % 16), hi, la⟩ : MV) := by unfold wrV; dsimp only; rw [if_neg (by omega), if_pos (by omega), if_pos (by omega), if_neg (by omega), s]
      have E2 : heldV (⟨2, n, r, on, mo, lo, hi, la⟩ : MV) (a % 32768) x = false := by simp [heldV]
      rw [E1, E2]
      exact call_2 n r lo hi la a x on mo false (⟨2, n, r, on, mo, (x % 16), hi, la⟩ : MV) w ha ha2 (fun W => w13_13 2 n r lo hi la (a % 32768) x on mo W b0 (by omega) g0 g1 g2 hx hx2 l0 l1 q0 (x % 16) rfl (by omega))
    · have E1 : wrV (⟨2, n, r, on, mo, lo, hi, la⟩ : MV) (a % 32768) x = (⟨2, n, r, on, mo, lo, hi, la⟩ : MV) := by unfold wrV; dsimp only; rw [if_neg (by omega), if_pos (by omega), if_neg (by omega)]
      have E2 : heldV (⟨2, n, r, on, mo, lo, hi, la⟩ : MV) (a % 32768) x = false := by simp [heldV]
      rw [E1, E2]
      exact call_2 n r lo hi la a x on mo false (⟨2, n, r, on, mo, lo, hi, la⟩ : MV) w ha ha2 (fun W => w13_14 2 n r lo hi la (a % 32768) x on mo W b0 (by omega) g0 g1 hx hx2 l0 l1 q0)
  · skip
    rcases (by omega : (0 ≤ (a % 32768) ∧ (a % 32768) < 8192) ∨ (8192 ≤ (a % 32768) ∧ (a % 32768) < 16384 ∧ x % 128 = 0) ∨ (8192 ≤ (a % 32768) ∧ (a % 32768) < 16384 ∧ x % 128 ≠ 0) ∨ (16384 ≤ (a % 32768) ∧ (a % 32768) < 24576) ∨ (24576 ≤ (a % 32768) ∧ (a % 32768) < 32768 ∧ la = 0) ∨ (24576 ≤ (a % 32768) ∧ (a % 32768) < 32768 ∧ 1 ≤ la)) with ⟨g0, g1⟩ | ⟨g0, g1, gm⟩ | ⟨g0, g1, gm⟩ | ⟨g0, g1⟩ | ⟨g0, g1, g2⟩ | ⟨g0, g1, g2⟩
    · have E1 : wrV (⟨3, n, r, on, mo, lo, hi, la⟩ : MV) (a % 32768) x = (⟨3, n, r, (x % 16 == 10), mo, lo, hi, la⟩ : MV) := by unfold wrV; dsimp only; rw [if_neg (by omega), if_neg (by omega), if_pos (by omega), if_pos (by omega)]
      have E2 : heldV (⟨3, n, r, on, mo, lo, hi, la⟩ : MV) (a % 32768) x = false := by simp [heldV]; omega
      rw [E1, E2]
      exact call_3 n r lo hi la a x on mo false (⟨3, n, r, (x % 16 == 10), mo, lo, hi, la⟩ : MV) w ha ha2 (fun W => w13_4 3 n r lo hi la (a % 32768) x on mo W b0 (by omega) g0 g1 hx hx2 l0 l1 q0)
    · have s : someV (x % 128) = 1 := by unfold someV; rw [if_pos gm]
      have E1 : wrV (⟨3, n, r, on, mo, lo, hi, la⟩ : MV) (a % 32768) x = (⟨3, n, r, on, mo, 1, hi, la⟩ : MV) := by unfold wrV; dsimp only; rw [if_neg (by omega), if_neg (by omega), if_pos (by omega), if_neg (by omega), if_pos (by omega), s]
      have E2 : heldV (⟨3, n, r, on, mo, lo, hi, la⟩ : MV) (a % 32768) x = false := by simp [heldV]; omega
      rw [E1, E2]
      exact call_3 n r lo hi la a x on mo false (⟨3, n, r, on, mo, 1, hi, la⟩ : MV) w ha ha2 (fun W => w13_5 3 n r lo hi la (a % 32768) x on mo W b0 (by omega) g0 g1 hx hx2 l0 l1 q0 _ rfl gm)
    · have s : someV (x % 128) = x % 128 := by unfold someV; rw [if_neg gm]
      have E1 : wrV (⟨3, n, r, on, mo, lo, hi, la⟩ : MV) (a % 32768) x = (⟨3, n, r, on, mo, (x % 128), hi, la⟩ : MV) := by unfold wrV; dsimp only; rw [if_neg (by omega), if_neg (by omega), if_pos (by omega), if_neg (by omega), if_pos (by omega), s]
      have E2 : heldV (⟨3, n, r, on, mo, lo, hi, la⟩ : MV) (a % 32768) x = false := by simp [heldV]; omega
      rw [E1, E2]
      exact call_3 n r lo hi la a x on mo false (⟨3, n, r, on, mo, (x % 128), hi, la⟩ : MV) w ha ha2 (fun W => w13_6 3 n r lo hi la (a % 32768) x on mo W b0 (by omega) g0 g1 hx hx2 l0 l1 q0 (x % 128) rfl (by omega))
    · have E1 : wrV (⟨3, n, r, on, mo, lo, hi, la⟩ : MV) (a % 32768) x = (⟨3, n, r, on, mo, lo, (x % 16), la⟩ : MV) := by unfold wrV; dsimp only; rw [if_neg (by omega), if_neg (by omega), if_pos (by omega), if_neg (by omega), if_neg (by omega), if_pos (by omega)]
      have E2 : heldV (⟨3, n, r, on, mo, lo, hi, la⟩ : MV) (a % 32768) x = false := by simp [heldV]; omega
      rw [E1, E2]
      exact call_3 n r lo hi la a x on mo false (⟨3, n, r, on, mo, lo, (x % 16), la⟩ : MV) w ha ha2 (fun W => w13_7 3 n r lo hi la (a % 32768) x on mo W b0 (by omega) g0 g1 hx hx2 l0 l1 q0)
    · have E1 : wrV (⟨3, n, r, on, mo, lo, hi, la⟩ : MV) (a % 32768) x = (⟨3, n, r, on, mo, lo, hi, x⟩ : MV) := by unfold wrV; dsimp only; rw [if_neg (by omega), if_neg (by omega), if_pos (by omega), if_neg (by omega), if_neg (by omega), if_neg (by omega)]
      have E2 : heldV (⟨3, n, r, on, mo, lo, hi, la⟩ : MV) (a % 32768) x = (x == 1) := by simp [heldV, g0, g2]
      rw [E1, E2]
      exact call_3 n r lo hi la a x on mo (x == 1) (⟨3, n, r, on, mo, lo, hi, x⟩ : MV) w ha ha2 (fun W => w13_9 3 n r lo hi la (a % 32768) x on mo W b0 (by omega) g0 g1 g2 hx hx2 l0 l1 q0)
    · have E1 : wrV (⟨3, n, r, on, mo, lo, hi, la⟩ : MV) (a % 32768) x = (⟨3, n, r, on, mo, lo, hi, x⟩ : MV) := by unfold wrV; dsimp only; rw [if_neg (by omega), if_neg (by omega), if_pos (by omega), if_neg (by omega), if_neg (by omega), if_neg (by omega)]
      have E2 : heldV (⟨3, n, r, on, mo, lo, hi, la⟩ : MV) (a % 32768) x = false := by simp [heldV]; omega
      rw [E1, E2]
      exact call_3 n r lo hi la a x on mo false (⟨3, n, r, on, mo, lo, hi, x⟩ : MV) w ha ha2 (fun W => w13_10 3 n r lo hi la (a % 32768) x on mo W b0 (by omega) g0 g1 g2 hx hx2 l0 l1 q0)
  · skip
    obtain ⟨g0, g1⟩ : 0 ≤ (a % 32768) ∧ (a % 32768) < 32768 := by omega
    have E1 : wrV (⟨4, n, r, on, mo, lo, hi, la⟩ : MV) (a % 32768) x = (⟨4, n, r, on, mo, lo, hi, la⟩ : MV) := by unfold wrV; dsimp only; rw [if_neg (by omega), if_neg (by omega), if_neg (by omega), if_neg (by omega)]
    have E2 : heldV (⟨4, n, r, on, mo, lo, hi, la⟩ : MV) (a % 32768) x = false := by simp [heldV]
    rw [E1, E2]
    exact call_4 n r lo hi la a x on mo w ha ha2
  · skip
    rcases (by omega : (0 ≤ (a % 32768) ∧ (a % 32768) < 8192) ∨ (8192 ≤ (a % 32768) ∧ (a % 32768) < 12288) ∨ (12288 ≤ (a % 32768) ∧ (a % 32768) < 16384) ∨ (16384 ≤ (a % 32768) ∧ (a % 32768) < 24576) ∨ (24576 ≤ (a % 32768) ∧ (a % 32768) < 32768)) with ⟨g0, g1⟩ | ⟨g0, g1⟩ | ⟨g0, g1⟩ | ⟨g0, g1⟩ | ⟨g0, g1⟩
    · have E1 : wrV (⟨5, n, r, on, mo, lo, hi, la⟩ : MV) (a % 32768) x = (⟨5, n, r, (x % 16 == 10), mo, lo, hi, la⟩ : MV) := by unfold wrV; dsimp only; rw [if_neg (by omega), if_neg (by omega), if_neg (by omega), if_pos (by omega), if_pos (by omega)]
      have E2 : heldV (⟨5, n, r, on, mo, lo, hi, la⟩ : MV) (a % 32768) x = false := by simp [heldV]
      rw [E1, E2]
      exact call_5 n r lo hi la a x on mo false (⟨5, n, r, (x % 16 == 10), mo, lo, hi, la⟩ : MV) w ha ha2 (fun W => w13_15 5 n r lo hi la (a % 32768) x on mo W b0 (by omega) g0 g1 hx hx2 l0 l1 q0)
    · have E1 : wrV (⟨5, n, r, on, mo, lo, hi, la⟩ : MV) (a % 32768) x = (⟨5, n, r, on, mo, (lo / 256 * 256 + x), hi, la⟩ : MV) := by unfold wrV; dsimp only; rw [if_neg (by omega), if_neg (by omega), if_neg (by omega), if_pos (by omega), if_neg (by omega), if_pos (by omega)]
      have E2 : heldV (⟨5, n, r, on, mo, lo, hi, la⟩ : MV) (a % 32768) x = false := by simp [heldV]
      rw [E1, E2]
      exact call_5 n r lo hi la a x on mo false (⟨5, n, r, on, mo, (lo / 256 * 256 + x), hi, la⟩ : MV) w ha ha2 (fun W => w13_16 5 n r lo hi la (a % 32768) x on mo W b0 (by omega) g0 g1 hx hx2 l0 l1 q0)
    · have E1 : wrV (⟨5, n, r, on, mo, lo, hi, la⟩ : MV) (a % 32768) x = (⟨5, n, r, on, mo, (lo % 256 + x % 2 * 256), hi, la⟩ : MV) := by unfold wrV; dsimp only; rw [if_neg (by omega), if_neg (by omega), if_neg (by omega), if_pos (by omega), if_neg (by omega), if_neg (by omega), if_pos (by omega)]
      have E2 : heldV (⟨5, n, r, on, mo, lo, hi, la⟩ : MV) (a % 32768) x = false := by simp [heldV]
      rw [E1, E2]
      exact call_5 n r lo hi la a x on mo false (⟨5, n, r, on, mo, (lo % 256 + x % 2 * 256), hi, la⟩ : MV) w ha ha2 (fun W => w13_17 5 n r lo hi la (a % 32768) x on mo W b0 (by omega) g0 g1 hx hx2 l0 l1 q0)
    · have E1 : wrV (⟨5, n, r, on, mo, lo, hi, la⟩ : MV) (a % 32768) x = (⟨5, n, r, on, mo, lo, (x % 16), la⟩ : MV) := by unfold wrV; dsimp only; rw [if_neg (by omega), if_neg (by omega), if_neg (by omega), if_pos (by omega), if_neg (by omega), if_neg (by omega), if_neg (by omega), if_pos (by omega)]
      have E2 : heldV (⟨5, n, r, on, mo, lo, hi, la⟩ : MV) (a % 32768) x = false := by simp [heldV]
      rw [E1, E2]
      exact call_5 n r lo hi la a x on mo false (⟨5, n, r, on, mo, lo, (x % 16), la⟩ : MV) w ha ha2 (fun W => w13_18 5 n r lo hi la (a % 32768) x on mo W b0 (by omega) g0 g1 hx hx2 l0 l1 q0)
    · have E1 : wrV (⟨5, n, r, on, mo, lo, hi, la⟩ : MV) (a % 32768) x = (⟨5, n, r, on, mo, lo, hi, la⟩ : MV) := by unfold wrV; dsimp only; rw [if_neg (by omega), if_neg (by omega), if_neg (by omega), if_pos (by omega), if_neg (by omega), if_neg (by omega), if_neg (by omega), if_neg (by omega)]
      have E2 : heldV (⟨5, n, r, on, mo, lo, hi, la⟩ : MV) (a % 32768) x = false := by simp [heldV]
      rw [E1, E2]
      exact call_5 n r lo hi la a x on mo false (⟨5, n, r, on, mo, lo, hi, la⟩ : MV) w ha ha2 (fun W => w13_19 5 n r lo hi la (a % 32768) x on mo W b0 (by omega) g0 g1 hx hx2 l0 l1 q0)
set_option maxHeartbeats 1000000 in
theorem rwrite_c (m R : MV) (a x : Int) (h : Bool) (hm : m.ok) (ha : 0 ≤ a) (ha2 : a < 65536) (hx : 0 ≤ x) (hx2 : x < 256) (e1 : wrV m (a % 32768) x = R) (e2 : heldV m (a % 32768) x = h) (w : World) : Calls Try.prog 14 #[.agg #[.int .i64 m.k, .int .i64 m.n, .int .i64 m.r, .bool m.on, .bool m.mo, .int .i64 m.lo, .int .i64 m.hi, .int .u8 m.la], .int .u16 a, .int .u8 x] w fun e w' => e = .returned (.tuple #[.agg #[.int .i64 R.k, .int .i64 R.n, .int .i64 R.r, .bool R.on, .bool R.mo, .int .i64 R.lo, .int .i64 R.hi, .int .u8 R.la], .bool h]) ∧ Below w.heap.size w w' := by
  subst e1; subst e2
  obtain ⟨k, n, r, on, mo, lo, hi, la⟩ := m
  obtain ⟨⟨k0, k1⟩, ⟨n0, n1⟩, ⟨r0, r1⟩, ⟨l0, l1⟩, ⟨h0, h1⟩, ⟨q0, q1⟩⟩ := hm
  dsimp only at k0 k1 n0 n1 r0 r1 l0 l1 h0 h1 q0 q1 ⊢
  have b0 : 0 ≤ a % 32768 := by omega
  have b1 : a % 32768 < 32768 := by omega
  rcases (by omega : k = 0 ∨ k = 1 ∨ k = 2 ∨ k = 3 ∨ k = 4 ∨ k = 5) with rfl | rfl | rfl | rfl | rfl | rfl
  · skip
    obtain ⟨g0, g1⟩ : 0 ≤ (a % 32768) ∧ (a % 32768) < 32768 := by omega
    have E1 : wrV (⟨0, n, r, on, mo, lo, hi, la⟩ : MV) (a % 32768) x = (⟨0, n, r, on, mo, lo, hi, la⟩ : MV) := by unfold wrV; dsimp only; rw [if_neg (by omega), if_neg (by omega), if_neg (by omega), if_neg (by omega)]
    have E2 : heldV (⟨0, n, r, on, mo, lo, hi, la⟩ : MV) (a % 32768) x = false := by simp [heldV]
    rw [E1, E2]
    exact w14_20 n r lo hi la a x on mo w ha ha2 g0 g1 hx hx2 l0 l1 q0
  · skip
    rcases (by omega : (0 ≤ (a % 32768) ∧ (a % 32768) < 8192) ∨ (8192 ≤ (a % 32768) ∧ (a % 32768) < 16384 ∧ x % 32 = 0) ∨ (8192 ≤ (a % 32768) ∧ (a % 32768) < 16384 ∧ x % 32 ≠ 0) ∨ (16384 ≤ (a % 32768) ∧ (a % 32768) < 24576) ∨ (24576 ≤ (a % 32768) ∧ (a % 32768) < 32768)) with ⟨g0, g1⟩ | ⟨g0, g1, gm⟩ | ⟨g0, g1, gm⟩ | ⟨g0, g1⟩ | ⟨g0, g1⟩
    · have E1 : wrV (⟨1, n, r, on, mo, lo, hi, la⟩ : MV) (a % 32768) x = (⟨1, n, r, (x % 16 == 10), mo, lo, hi, la⟩ : MV) := by unfold wrV; dsimp only; rw [if_pos (by omega), if_pos (by omega)]
      have E2 : heldV (⟨1, n, r, on, mo, lo, hi, la⟩ : MV) (a % 32768) x = false := by simp [heldV]
      rw [E1, E2]
      exact w14_0 n r lo hi la a x on mo w ha ha2 g0 g1 hx hx2 l0 l1 q0
    · have s : someV (x % 32) = 1 := by unfold someV; rw [if_pos gm]
      have E1 : wrV (⟨1, n, r, on, mo, lo, hi, la⟩ : MV) (a % 32768) x = (⟨1, n, r, on, mo, 1, hi, la⟩ : MV) := by unfold wrV; dsimp only; rw [if_pos (by omega), if_neg (by omega), if_pos (by omega), s]
      have E2 : heldV (⟨1, n, r, on, mo, lo, hi, la⟩ : MV) (a % 32768) x = false := by simp [heldV]
      rw [E1, E2]
      exact w14_1 n r lo hi la a x on mo w ha ha2 g0 g1 hx hx2 l0 l1 q0 _ rfl gm
    · have s : someV (x % 32) = x % 32 := by unfold someV; rw [if_neg gm]
      have E1 : wrV (⟨1, n, r, on, mo, lo, hi, la⟩ : MV) (a % 32768) x = (⟨1, n, r, on, mo, (x % 32), hi, la⟩ : MV) := by unfold wrV; dsimp only; rw [if_pos (by omega), if_neg (by omega), if_pos (by omega), s]
      have E2 : heldV (⟨1, n, r, on, mo, lo, hi, la⟩ : MV) (a % 32768) x = false := by simp [heldV]
      rw [E1, E2]
      exact w14_2 n r lo hi la a x on mo w ha ha2 g0 g1 hx hx2 l0 l1 q0 (x % 32) rfl (by omega)
    · have E1 : wrV (⟨1, n, r, on, mo, lo, hi, la⟩ : MV) (a % 32768) x = (⟨1, n, r, on, mo, lo, (x % 4), la⟩ : MV) := by unfold wrV; dsimp only; rw [if_pos (by omega), if_neg (by omega), if_neg (by omega), if_pos (by omega)]
      have E2 : heldV (⟨1, n, r, on, mo, lo, hi, la⟩ : MV) (a % 32768) x = false := by simp [heldV]
      rw [E1, E2]
      exact w14_3 n r lo hi la a x on mo w ha ha2 g0 g1 hx hx2 l0 l1 q0
    · have E1 : wrV (⟨1, n, r, on, mo, lo, hi, la⟩ : MV) (a % 32768) x = (⟨1, n, r, on, (x % 2 == 1), lo, hi, la⟩ : MV) := by unfold wrV; dsimp only; rw [if_pos (by omega), if_neg (by omega), if_neg (by omega), if_neg (by omega)]
      have E2 : heldV (⟨1, n, r, on, mo, lo, hi, la⟩ : MV) (a % 32768) x = false := by simp [heldV]
      rw [E1, E2]
      exact w14_8 n r lo hi la a x on mo w ha ha2 g0 g1 hx hx2 l0 l1 q0
  · skip
    rcases (by omega : (0 ≤ (a % 32768) ∧ (a % 32768) < 16384 ∧ (a % 32768) / 256 % 2 = 0) ∨ (0 ≤ (a % 32768) ∧ (a % 32768) < 16384 ∧ (a % 32768) / 256 % 2 = 1 ∧ x % 16 = 0) ∨ (0 ≤ (a % 32768) ∧ (a % 32768) < 16384 ∧ (a % 32768) / 256 % 2 = 1 ∧ x % 16 ≠ 0) ∨ (16384 ≤ (a % 32768) ∧ (a % 32768) < 32768)) with ⟨g0, g1, g2⟩ | ⟨g0, g1, g2, gm⟩ | ⟨g0, g1, g2, gm⟩ | ⟨g0, g1⟩
    · have E1 : wrV (⟨2, n, r, on, mo, lo, hi, la⟩ : MV) (a % 32768) x = (⟨2, n, r, (x % 16 == 10), mo, lo, hi, la⟩ : MV) := by unfold wrV; dsimp only; rw [if_neg (by omega), if_pos (by omega), if_pos (by omega), if_pos (by omega)]
      have E2 : heldV (⟨2, n, r, on, mo, lo, hi, la⟩ : MV) (a % 32768) x = false := by simp [heldV]
      rw [E1, E2]
      exact w14_11 n r lo hi la a x on mo w ha ha2 g0 g1 g2 hx hx2 l0 l1 q0
    · have s : someV (x % 16) = 1 := by unfold someV; rw [if_pos gm]
      have E1 : wrV (⟨2, n, r, on, mo, lo, hi, la⟩ : MV) (a % 32768) x = (⟨2, n, r, on, mo, 1, hi, la⟩ : MV) := by unfold wrV; dsimp only; rw [if_neg (by omega), if_pos (by omega), if_pos (by omega), if_neg (by omega), s]
      have E2 : heldV (⟨2, n, r, on, mo, lo, hi, la⟩ : MV) (a % 32768) x = false := by simp [heldV]
      rw [E1, E2]
      exact w14_12 n r lo hi la a x on mo w ha ha2 g0 g1 g2 hx hx2 l0 l1 q0 _ rfl gm
    · have s : someV (x % 16) = x % 16 := by unfold someV; rw [if_neg gm]
      have E1 : wrV (⟨2, n, r, on, mo, lo, hi, la⟩ : MV) (a % 32768) x = (⟨2, n, r, on, mo, (x % 16), hi, la⟩ : MV) := by unfold wrV; dsimp only; rw [if_neg (by omega), if_pos (by omega), if_pos (by omega), if_neg (by omega), s]
      have E2 : heldV (⟨2, n, r, on, mo, lo, hi, la⟩ : MV) (a % 32768) x = false := by simp [heldV]
      rw [E1, E2]
      exact w14_13 n r lo hi la a x on mo w ha ha2 g0 g1 g2 hx hx2 l0 l1 q0 (x % 16) rfl (by omega)
    · have E1 : wrV (⟨2, n, r, on, mo, lo, hi, la⟩ : MV) (a % 32768) x = (⟨2, n, r, on, mo, lo, hi, la⟩ : MV) := by unfold wrV; dsimp only; rw [if_neg (by omega), if_pos (by omega), if_neg (by omega)]
      have E2 : heldV (⟨2, n, r, on, mo, lo, hi, la⟩ : MV) (a % 32768) x = false := by simp [heldV]
      rw [E1, E2]
      exact w14_14 n r lo hi la a x on mo w ha ha2 g0 g1 hx hx2 l0 l1 q0
  · skip
    rcases (by omega : (0 ≤ (a % 32768) ∧ (a % 32768) < 8192) ∨ (8192 ≤ (a % 32768) ∧ (a % 32768) < 16384 ∧ x % 128 = 0) ∨ (8192 ≤ (a % 32768) ∧ (a % 32768) < 16384 ∧ x % 128 ≠ 0) ∨ (16384 ≤ (a % 32768) ∧ (a % 32768) < 24576) ∨ (24576 ≤ (a % 32768) ∧ (a % 32768) < 32768 ∧ la = 0) ∨ (24576 ≤ (a % 32768) ∧ (a % 32768) < 32768 ∧ 1 ≤ la)) with ⟨g0, g1⟩ | ⟨g0, g1, gm⟩ | ⟨g0, g1, gm⟩ | ⟨g0, g1⟩ | ⟨g0, g1, g2⟩ | ⟨g0, g1, g2⟩
    · have E1 : wrV (⟨3, n, r, on, mo, lo, hi, la⟩ : MV) (a % 32768) x = (⟨3, n, r, (x % 16 == 10), mo, lo, hi, la⟩ : MV) := by unfold wrV; dsimp only; rw [if_neg (by omega), if_neg (by omega), if_pos (by omega), if_pos (by omega)]
      have E2 : heldV (⟨3, n, r, on, mo, lo, hi, la⟩ : MV) (a % 32768) x = false := by simp [heldV]; omega
      rw [E1, E2]
      exact w14_4 n r lo hi la a x on mo w ha ha2 g0 g1 hx hx2 l0 l1 q0
    · have s : someV (x % 128) = 1 := by unfold someV; rw [if_pos gm]
      have E1 : wrV (⟨3, n, r, on, mo, lo, hi, la⟩ : MV) (a % 32768) x = (⟨3, n, r, on, mo, 1, hi, la⟩ : MV) := by unfold wrV; dsimp only; rw [if_neg (by omega), if_neg (by omega), if_pos (by omega), if_neg (by omega), if_pos (by omega), s]
      have E2 : heldV (⟨3, n, r, on, mo, lo, hi, la⟩ : MV) (a % 32768) x = false := by simp [heldV]; omega
      rw [E1, E2]
      exact w14_5 n r lo hi la a x on mo w ha ha2 g0 g1 hx hx2 l0 l1 q0 _ rfl gm
    · have s : someV (x % 128) = x % 128 := by unfold someV; rw [if_neg gm]
      have E1 : wrV (⟨3, n, r, on, mo, lo, hi, la⟩ : MV) (a % 32768) x = (⟨3, n, r, on, mo, (x % 128), hi, la⟩ : MV) := by unfold wrV; dsimp only; rw [if_neg (by omega), if_neg (by omega), if_pos (by omega), if_neg (by omega), if_pos (by omega), s]
      have E2 : heldV (⟨3, n, r, on, mo, lo, hi, la⟩ : MV) (a % 32768) x = false := by simp [heldV]; omega
      rw [E1, E2]
      exact w14_6 n r lo hi la a x on mo w ha ha2 g0 g1 hx hx2 l0 l1 q0 (x % 128) rfl (by omega)
    · have E1 : wrV (⟨3, n, r, on, mo, lo, hi, la⟩ : MV) (a % 32768) x = (⟨3, n, r, on, mo, lo, (x % 16), la⟩ : MV) := by unfold wrV; dsimp only; rw [if_neg (by omega), if_neg (by omega), if_pos (by omega), if_neg (by omega), if_neg (by omega), if_pos (by omega)]
      have E2 : heldV (⟨3, n, r, on, mo, lo, hi, la⟩ : MV) (a % 32768) x = false := by simp [heldV]; omega
      rw [E1, E2]
      exact w14_7 n r lo hi la a x on mo w ha ha2 g0 g1 hx hx2 l0 l1 q0
    · have E1 : wrV (⟨3, n, r, on, mo, lo, hi, la⟩ : MV) (a % 32768) x = (⟨3, n, r, on, mo, lo, hi, x⟩ : MV) := by unfold wrV; dsimp only; rw [if_neg (by omega), if_neg (by omega), if_pos (by omega), if_neg (by omega), if_neg (by omega), if_neg (by omega)]
      have E2 : heldV (⟨3, n, r, on, mo, lo, hi, la⟩ : MV) (a % 32768) x = (x == 1) := by simp [heldV, g0, g2]
      rw [E1, E2]
      exact w14_9 n r lo hi la a x on mo w ha ha2 g0 g1 g2 hx hx2 l0 l1 q0
    · have E1 : wrV (⟨3, n, r, on, mo, lo, hi, la⟩ : MV) (a % 32768) x = (⟨3, n, r, on, mo, lo, hi, x⟩ : MV) := by unfold wrV; dsimp only; rw [if_neg (by omega), if_neg (by omega), if_pos (by omega), if_neg (by omega), if_neg (by omega), if_neg (by omega)]
      have E2 : heldV (⟨3, n, r, on, mo, lo, hi, la⟩ : MV) (a % 32768) x = false := by simp [heldV]; omega
      rw [E1, E2]
      exact w14_10 n r lo hi la a x on mo w ha ha2 g0 g1 g2 hx hx2 l0 l1 q0
  · skip
    obtain ⟨g0, g1⟩ : 0 ≤ (a % 32768) ∧ (a % 32768) < 32768 := by omega
    have E1 : wrV (⟨4, n, r, on, mo, lo, hi, la⟩ : MV) (a % 32768) x = (⟨4, n, r, on, mo, lo, hi, la⟩ : MV) := by unfold wrV; dsimp only; rw [if_neg (by omega), if_neg (by omega), if_neg (by omega), if_neg (by omega)]
    have E2 : heldV (⟨4, n, r, on, mo, lo, hi, la⟩ : MV) (a % 32768) x = false := by simp [heldV]
    rw [E1, E2]
    exact w14_21 n r lo hi la a x on mo w ha ha2 g0 g1 hx hx2 l0 l1 q0
  · skip
    rcases (by omega : (0 ≤ (a % 32768) ∧ (a % 32768) < 8192) ∨ (8192 ≤ (a % 32768) ∧ (a % 32768) < 12288) ∨ (12288 ≤ (a % 32768) ∧ (a % 32768) < 16384) ∨ (16384 ≤ (a % 32768) ∧ (a % 32768) < 24576) ∨ (24576 ≤ (a % 32768) ∧ (a % 32768) < 32768)) with ⟨g0, g1⟩ | ⟨g0, g1⟩ | ⟨g0, g1⟩ | ⟨g0, g1⟩ | ⟨g0, g1⟩
    · have E1 : wrV (⟨5, n, r, on, mo, lo, hi, la⟩ : MV) (a % 32768) x = (⟨5, n, r, (x % 16 == 10), mo, lo, hi, la⟩ : MV) := by unfold wrV; dsimp only; rw [if_neg (by omega), if_neg (by omega), if_neg (by omega), if_pos (by omega), if_pos (by omega)]
      have E2 : heldV (⟨5, n, r, on, mo, lo, hi, la⟩ : MV) (a % 32768) x = false := by simp [heldV]
      rw [E1, E2]
      exact w14_15 n r lo hi la a x on mo w ha ha2 g0 g1 hx hx2 l0 l1 q0
    · have E1 : wrV (⟨5, n, r, on, mo, lo, hi, la⟩ : MV) (a % 32768) x = (⟨5, n, r, on, mo, (lo / 256 * 256 + x), hi, la⟩ : MV) := by unfold wrV; dsimp only; rw [if_neg (by omega), if_neg (by omega), if_neg (by omega), if_pos (by omega), if_neg (by omega), if_pos (by omega)]
      have E2 : heldV (⟨5, n, r, on, mo, lo, hi, la⟩ : MV) (a % 32768) x = false := by simp [heldV]
      rw [E1, E2]
      exact w14_16 n r lo hi la a x on mo w ha ha2 g0 g1 hx hx2 l0 l1 q0
    · have E1 : wrV (⟨5, n, r, on, mo, lo, hi, la⟩ : MV) (a % 32768) x = (⟨5, n, r, on, mo, (lo % 256 + x % 2 * 256), hi, la⟩ : MV) := by unfold wrV; dsimp only; rw [if_neg (by omega), if_neg (by omega), if_neg (by omega), if_pos (by omega), if_neg (by omega), if_neg (by omega), if_pos (by omega)]
      have E2 : heldV (⟨5, n, r, on, mo, lo, hi, la⟩ : MV) (a % 32768) x = false := by simp [heldV]
      rw [E1, E2]
      exact w14_17 n r lo hi la a x on mo w ha ha2 g0 g1 hx hx2 l0 l1 q0
    · have E1 : wrV (⟨5, n, r, on, mo, lo, hi, la⟩ : MV) (a % 32768) x = (⟨5, n, r, on, mo, lo, (x % 16), la⟩ : MV) := by unfold wrV; dsimp only; rw [if_neg (by omega), if_neg (by omega), if_neg (by omega), if_pos (by omega), if_neg (by omega), if_neg (by omega), if_neg (by omega), if_pos (by omega)]
      have E2 : heldV (⟨5, n, r, on, mo, lo, hi, la⟩ : MV) (a % 32768) x = false := by simp [heldV]
      rw [E1, E2]
      exact w14_18 n r lo hi la a x on mo w ha ha2 g0 g1 hx hx2 l0 l1 q0
    · have E1 : wrV (⟨5, n, r, on, mo, lo, hi, la⟩ : MV) (a % 32768) x = (⟨5, n, r, on, mo, lo, hi, la⟩ : MV) := by unfold wrV; dsimp only; rw [if_neg (by omega), if_neg (by omega), if_neg (by omega), if_pos (by omega), if_neg (by omega), if_neg (by omega), if_neg (by omega), if_neg (by omega)]
      have E2 : heldV (⟨5, n, r, on, mo, lo, hi, la⟩ : MV) (a % 32768) x = false := by simp [heldV]
      rw [E1, E2]
      exact w14_19 n r lo hi la a x on mo w ha ha2 g0 g1 hx hx2 l0 l1 q0
set_option maxHeartbeats 1000000 in
theorem at_c (m : MV) (a v : Int) (b : Bool) (hm : m.ok) (ha : 0 ≤ a) (ha2 : a < 65536) (e1 : numV (atV m a) = v) (e2 : isV (atV m a) = b) (w : World) : Calls Try.prog 15 #[.agg #[.int .i64 m.k, .int .i64 m.n, .int .i64 m.r, .bool m.on, .bool m.mo, .int .i64 m.lo, .int .i64 m.hi, .int .u8 m.la], .int .u16 a] w fun e w' => e = .returned (.tuple #[.int .i64 v, .bool b]) ∧ Below w.heap.size w w' := by
  subst e1; subst e2
  obtain ⟨k, n, r, on, mo, lo, hi, la⟩ := m
  obtain ⟨⟨k0, k1⟩, ⟨n0, n1⟩, ⟨r0, r1⟩, ⟨l0, l1⟩, ⟨h0, h1⟩, ⟨q0, q1⟩⟩ := hm
  dsimp only at k0 k1 n0 n1 r0 r1 l0 l1 h0 h1 q0 q1 ⊢
  by_cases c0 : a < 40960
  · have E : atV (⟨k, n, r, on, mo, lo, hi, la⟩ : MV) a = none := by unfold atV; dsimp only; rw [if_pos (by omega)]
    rw [E]
    exact at15_0 k n r lo hi la a on mo w ha ha2 r0 r1 h0 h1 l0 l1 n0 n1 c0
  by_cases c1 : 49151 < a
  · have E : atV (⟨k, n, r, on, mo, lo, hi, la⟩ : MV) a = none := by unfold atV; dsimp only; rw [if_neg (by omega), if_pos (by omega)]
    rw [E]
    exact at15_1 k n r lo hi la a on mo w ha ha2 r0 r1 h0 h1 l0 l1 n0 n1 c1
  cases on
  · have E : atV (⟨k, n, r, false, mo, lo, hi, la⟩ : MV) a = none := by unfold atV; dsimp only; rw [if_neg (by omega), if_neg (by omega), if_pos rfl]
    rw [E]
    exact at15_2 k n r lo hi la a false mo w ha ha2 r0 r1 h0 h1 l0 l1 n0 n1 (by omega) (by omega)
  by_cases c2 : r < 1
  · have E : atV (⟨k, n, r, true, mo, lo, hi, la⟩ : MV) a = none := by unfold atV; dsimp only; rw [if_neg (by omega), if_neg (by omega), if_neg (by simp), if_pos (by omega)]
    rw [E]
    exact at15_3 k n r lo hi la a true mo w ha ha2 r0 r1 h0 h1 l0 l1 n0 n1 (by omega) (by omega) c2
  rcases (by omega : k = 0 ∨ k = 1 ∨ k = 2 ∨ k = 3 ∨ k = 4 ∨ k = 5) with rfl | rfl | rfl | rfl | rfl | rfl
  · have E : atV (⟨0, n, r, true, mo, lo, hi, la⟩ : MV) a = some (a % 8192 % r) := by unfold atV offV; dsimp only; rw [if_neg (by omega), if_neg (by omega), if_neg (by simp), if_neg (by omega), if_pos (by omega)]; rfl
    rw [E]
    exact at15_4 n r lo hi la a true mo w ha ha2 r0 r1 h0 h1 l0 l1 n0 n1 (by omega) (by omega) (by omega)
  · cases mo
    · have E : atV (⟨1, n, r, true, false, lo, hi, la⟩ : MV) a = some (a % 8192 % r) := by unfold atV offV; dsimp only; rw [if_neg (by omega), if_neg (by omega), if_neg (by simp), if_neg (by omega), if_neg (by omega), if_pos (by omega), if_neg (by simp)]; rfl
      rw [E]
      exact at15_6 n r lo hi la a true false w ha ha2 r0 r1 h0 h1 l0 l1 n0 n1 (by omega) (by omega) (by omega)
    · have E : atV (⟨1, n, r, true, true, lo, hi, la⟩ : MV) a = some ((8192 * hi + a % 8192) % r) := by unfold atV offV; dsimp only; rw [if_neg (by omega), if_neg (by omega), if_neg (by simp), if_neg (by omega), if_neg (by omega), if_pos (by omega), if_pos rfl]; rfl
      rw [E]
      exact at15_5 n r lo hi la a true true w ha ha2 r0 r1 h0 h1 l0 l1 n0 n1 (by omega) (by omega) (by omega)
  · have E : atV (⟨2, n, r, true, mo, lo, hi, la⟩ : MV) a = some (a % 512 % r) := by unfold atV offV; dsimp only; rw [if_neg (by omega), if_neg (by omega), if_neg (by simp), if_neg (by omega), if_neg (by omega), if_neg (by omega), if_pos (by omega)]; rfl
    rw [E]
    exact at15_7 n r lo hi la a true mo w ha ha2 r0 r1 h0 h1 l0 l1 n0 n1 (by omega) (by omega) (by omega)
  · by_cases c3 : 3 < hi
    · have E : atV (⟨3, n, r, true, mo, lo, hi, la⟩ : MV) a = none := by unfold atV offV; dsimp only; rw [if_neg (by omega), if_neg (by omega), if_neg (by simp), if_neg (by omega), if_neg (by omega), if_neg (by omega), if_neg (by omega), if_pos (by omega), if_pos (by omega)]; rfl
      rw [E]
      exact at15_8 n r lo hi la a true mo w ha ha2 r0 r1 h0 h1 l0 l1 n0 n1 (by omega) (by omega) (by omega) c3
    · have E : atV (⟨3, n, r, true, mo, lo, hi, la⟩ : MV) a = some ((8192 * hi + a % 8192) % r) := by unfold atV offV; dsimp only; rw [if_neg (by omega), if_neg (by omega), if_neg (by simp), if_neg (by omega), if_neg (by omega), if_neg (by omega), if_neg (by omega), if_pos (by omega), if_neg (by omega)]; rfl
      rw [E]
      exact at15_9 n r lo hi la a true mo w ha ha2 r0 r1 h0 h1 l0 l1 n0 n1 (by omega) (by omega) (by omega) (by omega)
  · have E : atV (⟨4, n, r, true, mo, lo, hi, la⟩ : MV) a = none := by unfold atV offV; dsimp only; rw [if_neg (by omega), if_neg (by omega), if_neg (by simp), if_neg (by omega), if_neg (by omega), if_neg (by omega), if_neg (by omega), if_neg (by omega), if_neg (by omega)]; rfl
    rw [E]
    exact at15_11 n r lo hi la a true mo w ha ha2 r0 r1 h0 h1 l0 l1 n0 n1 (by omega) (by omega) (by omega)
  · have E : atV (⟨5, n, r, true, mo, lo, hi, la⟩ : MV) a = some ((8192 * hi + a % 8192) % r) := by unfold atV offV; dsimp only; rw [if_neg (by omega), if_neg (by omega), if_neg (by simp), if_neg (by omega), if_neg (by omega), if_neg (by omega), if_neg (by omega), if_neg (by omega), if_pos (by omega)]; rfl
    rw [E]
    exact at15_10 n r lo hi la a true mo w ha ha2 r0 r1 h0 h1 l0 l1 n0 n1 (by omega) (by omega) (by omega)
set_option maxHeartbeats 1000000 in
theorem rat_c (m : MV) (a v : Int) (b : Bool) (hm : m.ok) (ha : 0 ≤ a) (ha2 : a < 65536) (e1 : numV (atV m a) = v) (e2 : isV (atV m a) = b) (w : World) : Calls Try.prog 16 #[.agg #[.int .i64 m.k, .int .i64 m.n, .int .i64 m.r, .bool m.on, .bool m.mo, .int .i64 m.lo, .int .i64 m.hi, .int .u8 m.la], .int .u16 a] w fun e w' => e = .returned (.tuple #[.int .i64 v, .bool b]) ∧ Below w.heap.size w w' := by
  subst e1; subst e2
  obtain ⟨k, n, r, on, mo, lo, hi, la⟩ := m
  obtain ⟨⟨k0, k1⟩, ⟨n0, n1⟩, ⟨r0, r1⟩, ⟨l0, l1⟩, ⟨h0, h1⟩, ⟨q0, q1⟩⟩ := hm
  dsimp only at k0 k1 n0 n1 r0 r1 l0 l1 h0 h1 q0 q1 ⊢
  by_cases c0 : a < 40960
  · have E : atV (⟨k, n, r, on, mo, lo, hi, la⟩ : MV) a = none := by unfold atV; dsimp only; rw [if_pos (by omega)]
    rw [E]
    exact at16_0 k n r lo hi la a on mo w ha ha2 r0 r1 h0 h1 l0 l1 n0 n1 c0
  by_cases c1 : 49151 < a
  · have E : atV (⟨k, n, r, on, mo, lo, hi, la⟩ : MV) a = none := by unfold atV; dsimp only; rw [if_neg (by omega), if_pos (by omega)]
    rw [E]
    exact at16_1 k n r lo hi la a on mo w ha ha2 r0 r1 h0 h1 l0 l1 n0 n1 c1
  cases on
  · have E : atV (⟨k, n, r, false, mo, lo, hi, la⟩ : MV) a = none := by unfold atV; dsimp only; rw [if_neg (by omega), if_neg (by omega), if_pos rfl]
    rw [E]
    exact at16_2 k n r lo hi la a false mo w ha ha2 r0 r1 h0 h1 l0 l1 n0 n1 (by omega) (by omega)
  by_cases c2 : r < 1
  · have E : atV (⟨k, n, r, true, mo, lo, hi, la⟩ : MV) a = none := by unfold atV; dsimp only; rw [if_neg (by omega), if_neg (by omega), if_neg (by simp), if_pos (by omega)]
    rw [E]
    exact at16_3 k n r lo hi la a true mo w ha ha2 r0 r1 h0 h1 l0 l1 n0 n1 (by omega) (by omega) c2
  rcases (by omega : k = 0 ∨ k = 1 ∨ k = 2 ∨ k = 3 ∨ k = 4 ∨ k = 5) with rfl | rfl | rfl | rfl | rfl | rfl
  · have E : atV (⟨0, n, r, true, mo, lo, hi, la⟩ : MV) a = some (a % 8192 % r) := by unfold atV offV; dsimp only; rw [if_neg (by omega), if_neg (by omega), if_neg (by simp), if_neg (by omega), if_pos (by omega)]; rfl
    rw [E]
    exact at16_4 n r lo hi la a true mo w ha ha2 r0 r1 h0 h1 l0 l1 n0 n1 (by omega) (by omega) (by omega)
  · cases mo
    · have E : atV (⟨1, n, r, true, false, lo, hi, la⟩ : MV) a = some (a % 8192 % r) := by unfold atV offV; dsimp only; rw [if_neg (by omega), if_neg (by omega), if_neg (by simp), if_neg (by omega), if_neg (by omega), if_pos (by omega), if_neg (by simp)]; rfl
      rw [E]
      exact at16_6 n r lo hi la a true false w ha ha2 r0 r1 h0 h1 l0 l1 n0 n1 (by omega) (by omega) (by omega)
    · have E : atV (⟨1, n, r, true, true, lo, hi, la⟩ : MV) a = some ((8192 * hi + a % 8192) % r) := by unfold atV offV; dsimp only; rw [if_neg (by omega), if_neg (by omega), if_neg (by simp), if_neg (by omega), if_neg (by omega), if_pos (by omega), if_pos rfl]; rfl
      rw [E]
      exact at16_5 n r lo hi la a true true w ha ha2 r0 r1 h0 h1 l0 l1 n0 n1 (by omega) (by omega) (by omega)
  · have E : atV (⟨2, n, r, true, mo, lo, hi, la⟩ : MV) a = some (a % 512 % r) := by unfold atV offV; dsimp only; rw [if_neg (by omega), if_neg (by omega), if_neg (by simp), if_neg (by omega), if_neg (by omega), if_neg (by omega), if_pos (by omega)]; rfl
    rw [E]
    exact at16_7 n r lo hi la a true mo w ha ha2 r0 r1 h0 h1 l0 l1 n0 n1 (by omega) (by omega) (by omega)
  · by_cases c3 : 3 < hi
    · have E : atV (⟨3, n, r, true, mo, lo, hi, la⟩ : MV) a = none := by unfold atV offV; dsimp only; rw [if_neg (by omega), if_neg (by omega), if_neg (by simp), if_neg (by omega), if_neg (by omega), if_neg (by omega), if_neg (by omega), if_pos (by omega), if_pos (by omega)]; rfl
      rw [E]
      exact at16_8 n r lo hi la a true mo w ha ha2 r0 r1 h0 h1 l0 l1 n0 n1 (by omega) (by omega) (by omega) c3
    · have E : atV (⟨3, n, r, true, mo, lo, hi, la⟩ : MV) a = some ((8192 * hi + a % 8192) % r) := by unfold atV offV; dsimp only; rw [if_neg (by omega), if_neg (by omega), if_neg (by simp), if_neg (by omega), if_neg (by omega), if_neg (by omega), if_neg (by omega), if_pos (by omega), if_neg (by omega)]; rfl
      rw [E]
      exact at16_9 n r lo hi la a true mo w ha ha2 r0 r1 h0 h1 l0 l1 n0 n1 (by omega) (by omega) (by omega) (by omega)
  · have E : atV (⟨4, n, r, true, mo, lo, hi, la⟩ : MV) a = none := by unfold atV offV; dsimp only; rw [if_neg (by omega), if_neg (by omega), if_neg (by simp), if_neg (by omega), if_neg (by omega), if_neg (by omega), if_neg (by omega), if_neg (by omega), if_neg (by omega)]; rfl
    rw [E]
    exact at16_11 n r lo hi la a true mo w ha ha2 r0 r1 h0 h1 l0 l1 n0 n1 (by omega) (by omega) (by omega)
  · have E : atV (⟨5, n, r, true, mo, lo, hi, la⟩ : MV) a = some ((8192 * hi + a % 8192) % r) := by unfold atV offV; dsimp only; rw [if_neg (by omega), if_neg (by omega), if_neg (by simp), if_neg (by omega), if_neg (by omega), if_neg (by omega), if_neg (by omega), if_neg (by omega), if_pos (by omega)]; rfl
    rw [E]
    exact at16_10 n r lo hi la a true mo w ha ha2 r0 r1 h0 h1 l0 l1 n0 n1 (by omega) (by omega) (by omega)
set_option maxHeartbeats 1000000 in
theorem clock_c (m : MV) (v : Int) (b : Bool) (hm : m.ok) (e1 : numV (clV m) = v) (e2 : isV (clV m) = b) (w : World) : Calls Try.prog 17 #[.agg #[.int .i64 m.k, .int .i64 m.n, .int .i64 m.r, .bool m.on, .bool m.mo, .int .i64 m.lo, .int .i64 m.hi, .int .u8 m.la]] w fun e w' => e = .returned (.tuple #[.int .i64 v, .bool b]) ∧ Below w.heap.size w w' := by
  subst e1; subst e2
  obtain ⟨k, n, r, on, mo, lo, hi, la⟩ := m
  obtain ⟨⟨k0, k1⟩, ⟨n0, n1⟩, ⟨r0, r1⟩, ⟨l0, l1⟩, ⟨h0, h1⟩, ⟨q0, q1⟩⟩ := hm
  dsimp only at k0 k1 n0 n1 r0 r1 l0 l1 h0 h1 q0 q1 ⊢
  by_cases e3 : k = 3
  · subst e3
    cases on
    · exact cl17_3 n r lo hi la false mo w r0 r1 h0 h1 l0 l1 n0 n1
    by_cases c0 : hi < 8
    · have E : clV (⟨3, n, r, true, mo, lo, hi, la⟩ : MV) = none := by unfold clV; dsimp only; rw [if_pos rfl, if_pos rfl, if_pos c0]
      rw [E]
      exact cl17_0 n r lo hi la true mo w r0 r1 h0 h1 l0 l1 n0 n1 c0
    by_cases c1 : 12 < hi
    · have E : clV (⟨3, n, r, true, mo, lo, hi, la⟩ : MV) = none := by unfold clV; dsimp only; rw [if_pos rfl, if_pos rfl, if_neg c0, if_pos c1]
      rw [E]
      exact cl17_1 n r lo hi la true mo w r0 r1 h0 h1 l0 l1 n0 n1 c1
    have E : clV (⟨3, n, r, true, mo, lo, hi, la⟩ : MV) = some (hi - 8) := by unfold clV; dsimp only; rw [if_pos rfl, if_pos rfl, if_neg c0, if_neg c1]
    rw [E]
    exact cl17_2 n r lo hi la true mo w r0 r1 h0 h1 l0 l1 n0 n1 (by omega) (by omega)
  · have E : clV (⟨k, n, r, on, mo, lo, hi, la⟩ : MV) = none := by unfold clV; dsimp only; rw [if_neg e3]
    rw [E]
    exact cl17_4 k n r lo hi la on mo w r0 r1 h0 h1 l0 l1 n0 n1 (by simpa using e3) (by simpa using e3)
set_option maxHeartbeats 1000000 in
theorem rclock_c (m : MV) (v : Int) (b : Bool) (hm : m.ok) (e1 : numV (clV m) = v) (e2 : isV (clV m) = b) (w : World) : Calls Try.prog 18 #[.agg #[.int .i64 m.k, .int .i64 m.n, .int .i64 m.r, .bool m.on, .bool m.mo, .int .i64 m.lo, .int .i64 m.hi, .int .u8 m.la]] w fun e w' => e = .returned (.tuple #[.int .i64 v, .bool b]) ∧ Below w.heap.size w w' := by
  subst e1; subst e2
  obtain ⟨k, n, r, on, mo, lo, hi, la⟩ := m
  obtain ⟨⟨k0, k1⟩, ⟨n0, n1⟩, ⟨r0, r1⟩, ⟨l0, l1⟩, ⟨h0, h1⟩, ⟨q0, q1⟩⟩ := hm
  dsimp only at k0 k1 n0 n1 r0 r1 l0 l1 h0 h1 q0 q1 ⊢
  by_cases e3 : k = 3
  · subst e3
    cases on
    · exact cl18_3 n r lo hi la false mo w r0 r1 h0 h1 l0 l1 n0 n1
    by_cases c0 : hi < 8
    · have E : clV (⟨3, n, r, true, mo, lo, hi, la⟩ : MV) = none := by unfold clV; dsimp only; rw [if_pos rfl, if_pos rfl, if_pos c0]
      rw [E]
      exact cl18_0 n r lo hi la true mo w r0 r1 h0 h1 l0 l1 n0 n1 c0
    by_cases c1 : 12 < hi
    · have E : clV (⟨3, n, r, true, mo, lo, hi, la⟩ : MV) = none := by unfold clV; dsimp only; rw [if_pos rfl, if_pos rfl, if_neg c0, if_pos c1]
      rw [E]
      exact cl18_1 n r lo hi la true mo w r0 r1 h0 h1 l0 l1 n0 n1 c1
    have E : clV (⟨3, n, r, true, mo, lo, hi, la⟩ : MV) = some (hi - 8) := by unfold clV; dsimp only; rw [if_pos rfl, if_pos rfl, if_neg c0, if_neg c1]
    rw [E]
    exact cl18_2 n r lo hi la true mo w r0 r1 h0 h1 l0 l1 n0 n1 (by omega) (by omega)
  · have E : clV (⟨k, n, r, on, mo, lo, hi, la⟩ : MV) = none := by unfold clV; dsimp only; rw [if_neg e3]
    rw [E]
    exact cl18_4 k n r lo hi la on mo w r0 r1 h0 h1 l0 l1 n0 n1 (by simpa using e3) (by simpa using e3)
end Go.Proofs.Ytafmmffgenolaaa
