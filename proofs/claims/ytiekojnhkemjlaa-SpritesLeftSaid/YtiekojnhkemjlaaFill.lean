/-
  A memory that the law fills: 8192 bytes, that go on and on; for every world.
-/
import Derived.Test.YtiekojnhkemjlaaAwk
import Derived.Deep.Cut
import Derived.BigQuiet
import Derived.WalkSmall
import Derived.Deep.LoopGhost
import Derived.OwnWalk
import Derived.Laws.AppendOwn
import Derived.Laws.OwnMore
import Derived.Laws.MakeOwn
namespace Go.Proofs.Ytiekojnhkemjlaa
open Go.ChangeShapes Go.WideShapes Go.ChangeAt Go.RowKit
set_option linter.unusedVariables false
set_option linter.unusedSimpArgs false
set_option maxRecDepth 100000
/-- The block g bears n bytes f, which may be written. -/
structure Own (w : World) (g n : Nat) (f : Nat → Int) : Prop where
  lt : g < w.heap.size
  mem : ∀ j, j < n → w.cell? ⟨g, j, none⟩ = some (.int .u8 (f j))
  free : ∀ j, w.frozen? ⟨g, j, none⟩ = false
theorem Own.below {w w' : World} {g n : Nat} {f : Nat → Int} (h : Own w g n f) (hb : Below w.heap.size w w') : Own w' g n f :=
  ⟨Nat.lt_of_lt_of_le h.lt hb.size, fun j hj => (hb.cell (p := ⟨g, j, none⟩) h.lt).trans (h.mem j hj), fun j => (hb.frozen (p := ⟨g, j, none⟩) h.lt).trans (h.free j)⟩
theorem Own.drew {w : World} {g n : Nat} {f : Nat → Int} (h : Own w g n f) : Own w.drew g n f := h.below (Below.refl _ _).drew
theorem Own.congr {w : World} {g n : Nat} {f f' : Nat → Int} (h : Own w g n f) (e : ∀ j, j < n → f j = f' j) : Own w g n f' := ⟨h.lt, fun j hj => by rw [h.mem j hj, e j hj], h.free⟩
theorem Own.set {w : World} {g n : Nat} {f : Nat → Int} (h : Own w g n f) (k : Nat) (hk : k < n) (x : Int) : Own (w.setCell ⟨g, k, none⟩ (.int .u8 x)) g n (upd f k x) := by
  refine ⟨by simpa using h.lt, fun j hj => ?_, fun j => by simpa [go_sem] using h.free j⟩
  unfold upd
  by_cases e : j = k
  · subst e
    rw [if_pos rfl]
    exact World.cell?_setCell_same w _ _ (h.mem j hj)
  · rw [if_neg e, World.cell?_setCell_other w _ _ _ (by intro h; injection h with _ h; exact e h.symm)]
    exact h.mem j hj
theorem infoB : (Try.prog.info? 5).map (fun i => (i.zero, i.size, i.bytes)) = some (some (.int .u8 0), 1, 1) := by kernel_rfl
def zeroB (n : Nat) : Array Value := madeCells (Value.int .u8 0).cells n
theorem zeroB_get (n a : Nat) (h : a < n) : (zeroB n)[a]? = some (.int .u8 0) := by
  unfold zeroB madeCells
  rw [Array.getElem?_map, Array.getElem?_range]
  rw [if_pos h]
  show some ((Value.int .u8 0).cells[a % 1]!) = _
  rw [Nat.mod_one]
  rfl
theorem mk_run (n : Nat) (hn : n < 2147483648) (w : World) : (Instr.makeSlice 22 (.int .i64 n) (.int .i64 n)).run Try.prog w = .ok (.slice (some ⟨w.heap.size, 0, none⟩) n n) (w.alloc (.cells (zeroB n) 5)) := by
  obtain ⟨i0, hi, hz0, hz1, hz2⟩ := info_parts infoB
  have h := run_make (P := Try.prog) w 22 5 i0 _ Try.underlying22 hi hz0 .i64 .i64 n n (by omega) (by omega) (by rw [hz2]; omega) (by omega)
  rw [hz1] at h
  simpa [zeroB] using h
theorem Own.zero (n : Nat) (w : World) : Own (w.alloc (.cells (zeroB n) 5)) w.heap.size n (fun _ => 0) := by
  have h := Has.new w (zeroB n) 5
  exact ⟨h.1, fun j hj => by rw [h.2.1 j, zeroB_get n j hj], h.2.2⟩
theorem Own.mem2 {w : World} {g n : Nat} {f : M} (h : Own w g n f) (hn : n ≤ 8192) (ok : okB f) (h0 : ∀ k, n ≤ k → f k = 0) : Mem w (.slice (some ⟨g, 0, none⟩) n n) f :=
  ⟨_, n, n, rfl, hn, Nat.le_refl _, ok, h0, fun _ => ⟨g, 0, rfl, h.lt, fun j hj => by rw [Nat.zero_add]; exact h.mem j hj⟩⟩
def FillE (F : M) (n : Nat) (k : Nat) (W0 : World) (e : Ending) (w' : World) : Prop := ∃ s, e = .returned s ∧ Mem w' s (filledV F n) ∧ Below k W0 w'
theorem filled_step (F : M) (n t : Nat) (ht : t < 8192) (hn : 0 < n) : filledV F n t = F ((t + t / 97) % n) := if_pos ⟨ht, hn⟩
set_option maxHeartbeats 4000000 in
theorem filled_c (a : Option Addr) (n c : Nat) (F : M) (hn : n ≤ 8192) (hc : n ≤ c) (ok : okB F) (w : World) (hM : 0 < n → ∃ b o, a = some ⟨b, o, none⟩ ∧ b < w.heap.size ∧ ∀ j, j < n → w.cell? ⟨b, o + j, none⟩ = some (.int .u8 (F j))) :
    Calls Try.prog 10 #[.slice a n c] w (FillE F n w.heap.size w) := by
  have OKF := ok_filled ok n
  have HMM := Lib.hid hM
  have OKB := Lib.hid ok
  have FS := Lib.hid (filled_step F n)
  have FZ := Lib.hid (show n = 0 → filledV F n = zeroM from fun h => by funext k; subst h; unfold filledV zeroM; rw [if_neg (by omega)])
  have F8 := Lib.hid (show ∀ k, 8192 ≤ k → firstN (filledV F n) 8192 k = 0 from fun k h => if_neg (by omega))
  have FE := Lib.hid (show firstN (filledV F n) 8192 = filledV F n from by funext k; unfold firstN filledV; by_cases h : k < 8192; rw [if_pos h]; rw [if_neg h, if_neg (by omega)])
  unfold FillE
  obtain ⟨L, hL⟩ : ∃ L, L = filledV F n := ⟨_, rfl⟩
  rw [← hL] at OKF FS FZ F8 FE ⊢
  have OKL := Lib.hid OKF
  clear hM ok hL OKF
  have mk : (Instr.makeSlice 22 (.int .i64 8192) (.int .i64 8192)).run Try.prog w = .ok (.slice (some ⟨w.heap.size, 0, none⟩) 8192 8192) (w.alloc (.cells (zeroB 8192) 5)) := mk_run 8192 (by omega) w
  have O0 := Lib.hid (Own.zero 8192 w)
  have B0 := Lib.hid (own1 w (.cells (zeroB 8192) 5))
  have hn0 : (0 : Int) ≤ n := by omega
  go_enter Try.func10, Try.ntmps10
  go_upto_region 2 with (fail)
  clear mk
  generalize w.alloc (.cells (zeroB 8192) 5) = w0 at O0 B0 ⊢
  generalize hg : w.heap.size = g at O0 ⊢
  have LG := Lib.hid (show w.heap.size ≤ g by omega)
  have HG := Lib.hid hg
  clear hg
  go_wp2
  go_loopg [8] 8192 (fun g' i wr => ∃ t : Nat, t ≤ 8192 ∧ g' + t = 8192 ∧ i = .int .i64 t ∧ Below w.heap.size w wr ∧ Own wr g 8192 (firstN L t))
  case atStart => exact ⟨0, by omega, by omega, rfl, B0.out, by rw [first_zero]; exact O0.out⟩
  case round =>
    obtain ⟨u1, hw5⟩ : ∃ q_, q_ = wr := ⟨_, rfl⟩
    subst hw5
    obtain ⟨t, ht, hgt, rfl, hB, hO⟩ := hrel
    have GG := Lib.hid hgt
    have BB := Lib.hid hB
    have OO := Lib.hid hO
    clear hgt hB hO O0 B0
    by_cases hlt : t < 8192
    · have l1 : (t : Int) < 8192 := by omega
      have l0 : (0 : Int) ≤ t := by omega
      have HS := Lib.hid (first_succ L t)
      by_cases h0 : 0 < n
      · have i0 : (0 : Int) < n := by omega
        obtain ⟨k, hk⟩ : ∃ k, k = (t + t / 97) % n := ⟨_, rfl⟩
        have kn : k < n := hk ▸ Nat.mod_lt _ h0
        have e1 := FS.out t hlt h0
        rw [← hk] at e1
        rw [e1] at HS
        obtain ⟨b, o, rfl, hb, hcs⟩ := HMM.out h0
        have hcl := (BB.out.cell (p := ⟨b, o + k, none⟩) hb).trans (hcs k kn)
        have xb := OKB.out k
        have d1 : (t : Int).tdiv 97 = ((t / 97 : Nat) : Int) := by rw [Int.tdiv_eq_ediv_of_nonneg l0]; omega
        have d2 : ((t : Int) + ((t / 97 : Nat) : Int)).tmod (n : Int) = (k : Int) := by
          rw [Int.tmod_eq_emod_of_nonneg (by omega), hk]
          simp
        have d3 : ((t : Int) + (t : Int) / 97) % (n : Int) = (k : Int) := by
          rw [hk]; simp
        have kI : (k : Int) < n := by omega
        have n9 : (n : Int) ≠ 0 := by omega
        have hm := OO.out.mem t hlt
        have hff := OO.out.free t
        generalize F k = x at hcl xb HS
        generalize firstN L t t = y at hm
        have NX := Lib.hid (OO.out.set t hlt x)
        rw [HS.out] at NX
        have BX := Lib.hid (BB.out.setCell (p := ⟨g, t, none⟩) LG.out (.int .u8 x))
        clear hcs e1 hk
        go_wp2
        go_roundg (gk - 1)
        exact ⟨t + 1, by omega, by have := GG.out; omega, by simp, BX.out, NX.out⟩
        case measure => have := GG.out; omega
      · have i0 : ¬ (0 : Int) < n := by omega
        have e1 : firstN L (t + 1) = firstN L t := by rw [FZ.out (by omega)]; funext k; unfold firstN zeroM; split <;> split <;> rfl
        have E1 := Lib.hid e1
        clear e1
        go_wp2
        go_roundg (gk - 1)
        exact ⟨t + 1, by omega, by have := GG.out; omega, by simp, BB.out, by rw [E1.out]; exact OO.out⟩
        case measure => have := GG.out; omega
    · have et : t = 8192 := by omega
      subst et
      have l1 : ¬ ((8192 : Nat) : Int) < 8192 := by omega
      go_wp2
      go_ret
      refine ⟨_, rfl, ?_, BB.out⟩
      rw [← FE.out]
      exact OO.out.mem2 (by omega) (by rw [FE.out]; exact OKL.out) F8.out
end Go.Proofs.Ytiekojnhkemjlaa
