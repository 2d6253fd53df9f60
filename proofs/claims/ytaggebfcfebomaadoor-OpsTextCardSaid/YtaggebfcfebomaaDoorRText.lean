/-
  What the document's Text returns: for every world and every order; the walk through OpsText.
-/
import Derived.Test.YtaggebfcfebomaaDoorRXA
import Derived.Test.YtaggebfcfebomaaDoorRXB
import Derived.Test.YtaggebfcfebomaaDoorRXC
import Derived.Test.YtaggebfcfebomaaDoorRXD
namespace Go.Proofs.YtaggebfcfebomaaDoor
open Go.ChangeShapes Go.WideShapes Go.ChangeAt Go.RowKit
set_option linter.unusedVariables false
theorem rtext_c (r : OpV) (hn1 : 0 ≤ r.n) (hn2 : r.n < 65536) (w : World) : Calls Tryd.prog 14 #[.agg #[.int .i64 r.k, .int .i64 r.x, .int .i64 r.y, .int .i64 r.s, .int .u16 r.n]] w fun e w' => e = .returned (.string ⟨(textL r).toArray⟩) ∧ Below w.heap.size w w' := by
  obtain ⟨k, x, y, s, nn⟩ := r
  obtain ⟨n, rfl⟩ := Int.eq_ofNat_of_zero_le hn1
  have hn : n < 65536 := by simp at hn2; omega
  clear hn1 hn2
  by_cases h : 1 ≤ k ∧ k ≤ 46
  · have hv : k = 1 ∨ k = 2 ∨ k = 3 ∨ k = 4 ∨ k = 5 ∨ k = 6 ∨ k = 7 ∨ k = 8 ∨ k = 9 ∨ k = 10 ∨ k = 11 ∨ k = 12 ∨ k = 13 ∨ k = 14 ∨ k = 15 ∨ k = 16 ∨ k = 17 ∨ k = 18 ∨ k = 19 ∨ k = 20 ∨ k = 21 ∨ k = 22 ∨ k = 23 ∨ k = 24 ∨ k = 25 ∨ k = 26 ∨ k = 27 ∨ k = 28 ∨ k = 29 ∨ k = 30 ∨ k = 31 ∨ k = 32 ∨ k = 33 ∨ k = 34 ∨ k = 35 ∨ k = 36 ∨ k = 37 ∨ k = 38 ∨ k = 39 ∨ k = 40 ∨ k = 41 ∨ k = 42 ∨ k = 43 ∨ k = 44 ∨ k = 45 ∨ k = 46 := by omega
    clear h
    rcases hv with rfl | rfl | rfl | rfl | rfl | rfl | rfl | rfl | rfl | rfl | rfl | rfl | rfl | rfl | rfl | rfl | rfl | rfl | rfl | rfl | rfl | rfl | rfl | rfl | rfl | rfl | rfl | rfl | rfl | rfl | rfl | rfl | rfl | rfl | rfl | rfl | rfl | rfl | rfl | rfl | rfl | rfl | rfl | rfl | rfl | rfl
    · exact rt_1 x y s n hn w
    · exact rt_2 x y s n hn w
    · exact rt_3 x y s n hn w
    · exact rt_4 x y s n hn w
    · exact rt_5 x y s n hn w
    · exact rt_6 x y s n hn w
    · exact rt_7 x y s n hn w
    · exact rt_8 x y s n hn w
    · exact rt_9 x y s n hn w
    · exact rt_10 x y s n hn w
    · exact rt_11 x y s n hn w
    · exact rt_12 x y s n hn w
    · exact rt_13 x y s n hn w
    · exact rt_14 x y s n hn w
    · exact rt_15 x y s n hn w
    · exact rt_16 x y s n hn w
    · exact rt_17 x y s n hn w
    · exact rt_18 x y s n hn w
    · exact rt_19 x y s n hn w
    · exact rt_20 x y s n hn w
    · exact rt_21 x y s n hn w
    · exact rt_22 x y s n hn w
    · exact rt_23 x y s n hn w
    · exact rt_24 x y s n hn w
    · exact rt_25 x y s n hn w
    · exact rt_26 x y s n hn w
    · exact rt_27 x y s n hn w
    · exact rt_28 x y s n hn w
    · exact rt_29 x y s n hn w
    · exact rt_30 x y s n hn w
    · exact rt_31 x y s n hn w
    · exact rt_32 x y s n hn w
    · exact rt_33 x y s n hn w
    · exact rt_34 x y s n hn w
    · exact rt_35 x y s n hn w
    · exact rt_36 x y s n hn w
    · exact rt_37 x y s n hn w
    · exact rt_38 x y s n hn w
    · exact rt_39 x y s n hn w
    · exact rt_40 x y s n hn w
    · exact rt_41 x y s n hn w
    · exact rt_42 x y s n hn w
    · exact rt_43 x y s n hn w
    · exact rt_44 x y s n hn w
    · exact rt_45 x y s n hn w
    · exact rt_46 x y s n hn w
  · have e0 : k.toNat = 0 ∨ ∃ j, k.toNat = j + 47 := by
      by_cases h1 : k ≤ 0
      · left; omega
      · right; exact ⟨k.toNat - 47, by omega⟩
    have e1 : txM k x = [63] := by
      unfold txM
      rcases e0 with e | ⟨j, e⟩ <;> (rw [e]; rfl)
    have e2 : txO k x y n = [] := by
      unfold txO
      rcases e0 with e | ⟨j, e⟩ <;> (rw [e]; rfl)
    have e3 : textL ⟨k, x, y, s, (n : Int)⟩ = lineL [63] [] := by
      show lineL (txM k x) (txO k x y n) = _
      rw [e1, e2]
    rw [e3]
    exact rt_d k x y s n hn (by simpa using (show k ≠ 1 by omega)) (by simpa using (show k ≠ 2 by omega)) (by simpa using (show k ≠ 3 by omega)) (by simpa using (show k ≠ 4 by omega)) (by simpa using (show k ≠ 5 by omega)) (by simpa using (show k ≠ 6 by omega)) (by simpa using (show k ≠ 7 by omega)) (by simpa using (show k ≠ 8 by omega)) (by simpa using (show k ≠ 9 by omega)) (by simpa using (show k ≠ 10 by omega)) (by simpa using (show k ≠ 11 by omega)) (by simpa using (show k ≠ 12 by omega)) (by simpa using (show k ≠ 13 by omega)) (by simpa using (show k ≠ 14 by omega)) (by simpa using (show k ≠ 15 by omega)) (by simpa using (show k ≠ 16 by omega)) (by simpa using (show k ≠ 17 by omega)) (by simpa using (show k ≠ 18 by omega)) (by simpa using (show k ≠ 19 by omega)) (by simpa using (show k ≠ 20 by omega)) (by simpa using (show k ≠ 21 by omega)) (by simpa using (show k ≠ 22 by omega)) (by simpa using (show k ≠ 23 by omega)) (by simpa using (show k ≠ 24 by omega)) (by simpa using (show k ≠ 25 by omega)) (by simpa using (show k ≠ 26 by omega)) (by simpa using (show k ≠ 27 by omega)) (by simpa using (show k ≠ 28 by omega)) (by simpa using (show k ≠ 29 by omega)) (by simpa using (show k ≠ 30 by omega)) (by simpa using (show k ≠ 31 by omega)) (by simpa using (show k ≠ 32 by omega)) (by simpa using (show k ≠ 33 by omega)) (by simpa using (show k ≠ 34 by omega)) (by simpa using (show k ≠ 35 by omega)) (by simpa using (show k ≠ 36 by omega)) (by simpa using (show k ≠ 37 by omega)) (by simpa using (show k ≠ 38 by omega)) (by simpa using (show k ≠ 39 by omega)) (by simpa using (show k ≠ 40 by omega)) (by simpa using (show k ≠ 41 by omega)) (by simpa using (show k ≠ 42 by omega)) (by simpa using (show k ≠ 43 by omega)) (by simpa using (show k ≠ 44 by omega)) (by simpa using (show k ≠ 45 by omega)) (by simpa using (show k ≠ 46 by omega)) w
end Go.Proofs.YtaggebfcfebomaaDoor
