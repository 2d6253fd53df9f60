/-
  What the document's when returns: for every world, a short word and short texts.
-/
import Derived.Test.YtaggebfcfebomaaDoorRT0
namespace Go.Proofs.YtaggebfcfebomaaDoor
open Go.ChangeShapes Go.WideShapes Go.ChangeAt Go.RowKit
set_option linter.unusedVariables false

theorem pick_ne (x : Int) : pickL x condN ≠ [] := by
  unfold pickL
  split
  · rename_i h
    have : x = 0 ∨ x = 1 ∨ x = 2 ∨ x = 3 := by simp [condN] at h; omega
    rcases this with rfl | rfl | rfl | rfl <;> decide
  · decide
theorem ne_of {l : List UInt8} (h : l ≠ []) : (⟨l.toArray⟩ : ByteArray).toList.isEmpty = false := by
  rw [ByteArray.toList_eq]
  simpa using h
theorem join1 (a : List UInt8) : Lib.join [a] [44, 32] = a := by simp [Lib.join, List.intercalate]
theorem join2 (a b : List UInt8) : Lib.join [a, b] [44, 32] = a ++ 44 :: 32 :: b := by simp [Lib.join, List.intercalate]
theorem line1 (m a : List UInt8) : lineL m [a] = m ++ 32 :: a := by rw [lineL, if_neg (by simp), join1]
theorem line2 (m a b : List UInt8) : lineL m [a, b] = m ++ 32 :: (a ++ 44 :: 32 :: b) := by rw [lineL, if_neg (by simp), join2]
set_option maxRecDepth 100000 in
set_option maxHeartbeats 2000000 in
theorem when_a (word L : List UInt8) (hw : word.length ≤ 10) (hL : L.length ≤ 10) (h0 : L ≠ []) (w : World) : Calls Tryd.prog 30 #[.string ⟨(word).toArray⟩, .int .i64 4, .string ⟨(L).toArray⟩] w fun e w' => e = .returned (.string ⟨(lineL word [L]).toArray⟩) ∧ Below w.heap.size w w' := by
  have f1 : ((⟨#[]⟩ : ByteArray) ++ ⟨L.toArray⟩).toList.isEmpty = false := by rw [cat]; exact ne_of (by simpa using h0)
  have q1 : ¬ 9223372036854775807 < L.length := by omega
  have q2 : ¬ 9223372036854775807 < word.length + 1 := by omega
  have q3 : ¬ 9223372036854775807 < word.length + 1 + L.length := by omega
  rw [line1]
  clear h0
  go_enter Tryd.func30, Tryd.ntmps30
  go_wp2
  go_ret
  rw [cat, cat, cat]
  exact ⟨by simp, Below.refl _ _⟩
set_option maxRecDepth 100000 in
set_option maxHeartbeats 2000000 in
theorem when_b (word : List UInt8) (hw : word.length ≤ 10) (w : World) : Calls Tryd.prog 30 #[.string ⟨(word).toArray⟩, .int .i64 4, .string ⟨#[]⟩] w fun e w' => e = .returned (.string ⟨(word).toArray⟩) ∧ Below w.heap.size w w' := by
  have f1 : ((⟨#[]⟩ : ByteArray) ++ ⟨#[]⟩).toList.isEmpty = true := by decide +kernel
  go_enter Tryd.func30, Tryd.ntmps30
  go_wp2
  go_ret
  exact ⟨rfl, Below.refl _ _⟩
set_option maxRecDepth 100000 in
set_option maxHeartbeats 2000000 in
theorem when_c (word L : List UInt8) (hw : word.length ≤ 10) (hL : L.length ≤ 10) (h0 : L ≠ []) (x : Int) (hx : (x != 4) = true) (w : World) : Calls Tryd.prog 30 #[.string ⟨(word).toArray⟩, .int .i64 x, .string ⟨(L).toArray⟩] w fun e w' => e = .returned (.string ⟨(lineL word [pickL x condN, L]).toArray⟩) ∧ Below w.heap.size w w' := by
  have hP := pick_ne x
  have hP2 := pick_len x condN (by decide)
  rw [line2]
  have HL := Lib.hid h0
  clear h0
  go_enter Tryd.func30, Tryd.ntmps30
  go_wp2_with fail
  refine (rpick_c x condN w.heap.size 4 rfl (by omega) _ (Texts.new w _ _ rfl _)).mono ?_
  rintro e w' ⟨rfl, rfl⟩
  have B1 := Lib.hid (own1 w (.cells (condN.map fun x => Value.string ⟨x.toArray⟩).toArray 9))
  generalize w.alloc (.cells (condN.map fun x => Value.string ⟨x.toArray⟩).toArray 9) = V at B1 ⊢
  generalize hpe : pickL x condN = P at hP hP2 ⊢
  have HPE := Lib.hid hpe
  clear hpe
  have f1 := ne_of hP
  have f2 := ne_of HL.out
  have f3 : ((⟨P.toArray⟩ : ByteArray) ++ ⟨#[44, 32]⟩ ++ ⟨L.toArray⟩).toList.isEmpty = false := by rw [cat, cat]; exact ne_of (by simp)
  have q1 : ¬ 9223372036854775807 < P.length + 2 := by omega
  have q2 : ¬ 9223372036854775807 < P.length + 2 + L.length := by omega
  have q3 : ¬ 9223372036854775807 < word.length + 1 := by omega
  have q4 : ¬ 9223372036854775807 < word.length + 1 + (P.length + 2 + L.length) := by omega
  have h0 := HL.out
  have e1 : P.isEmpty = false := by simpa using hP
  have e2 : L.isEmpty = false := by simpa using h0
  clear HL
  go_wp2
  go_ret
  rw [cat, cat, cat, cat]
  exact ⟨by simp [HPE.out], B1.out⟩
set_option maxRecDepth 100000 in
set_option maxHeartbeats 2000000 in
theorem when_d (word : List UInt8) (hw : word.length ≤ 10) (x : Int) (hx : (x != 4) = true) (w : World) : Calls Tryd.prog 30 #[.string ⟨(word).toArray⟩, .int .i64 x, .string ⟨#[]⟩] w fun e w' => e = .returned (.string ⟨(lineL word [pickL x condN]).toArray⟩) ∧ Below w.heap.size w w' := by
  have hP := pick_ne x
  have hP2 := pick_len x condN (by decide)
  rw [line1]
  go_enter Tryd.func30, Tryd.ntmps30
  go_wp2_with fail
  refine (rpick_c x condN w.heap.size 4 rfl (by omega) _ (Texts.new w _ _ rfl _)).mono ?_
  rintro e w' ⟨rfl, rfl⟩
  have B1 := Lib.hid (own1 w (.cells (condN.map fun x => Value.string ⟨x.toArray⟩).toArray 9))
  generalize w.alloc (.cells (condN.map fun x => Value.string ⟨x.toArray⟩).toArray 9) = V at B1 ⊢
  generalize hpe : pickL x condN = P at hP hP2 ⊢
  have HPE := Lib.hid hpe
  clear hpe
  have f1 := ne_of hP
  have f3 : ((⟨P.toArray⟩ : ByteArray) ++ ⟨#[]⟩).toList.isEmpty = false := by rw [cat]; exact ne_of (by simpa using hP)
  have q1 : ¬ 9223372036854775807 < P.length := by omega
  have q3 : ¬ 9223372036854775807 < word.length + 1 := by omega
  have q4 : ¬ 9223372036854775807 < word.length + 1 + P.length := by omega
  have e1 : P.isEmpty = false := by simpa using hP
  go_wp2
  go_ret
  rw [cat, cat, cat]
  exact ⟨by simp [HPE.out], B1.out⟩
theorem whenA_c (word L : List UInt8) (hw : word.length ≤ 10) (hL : L.length ≤ 10) (h0 : L ≠ []) (x : Int) (w : World) : Calls Tryd.prog 30 #[.string ⟨(word).toArray⟩, .int .i64 x, .string ⟨(L).toArray⟩] w fun e w' => e = .returned (.string ⟨(lineL word (condL x [L])).toArray⟩) ∧ Below w.heap.size w w' := by
  by_cases h : x = 4
  · subst h
    exact when_a word L hw hL h0 w
  · have e : condL x [L] = [pickL x condN, L] := if_neg h
    rw [e]
    exact when_c word L hw hL h0 x (by simpa using h) w
theorem whenN_c (word : List UInt8) (hw : word.length ≤ 10) (x : Int) (w : World) : Calls Tryd.prog 30 #[.string ⟨(word).toArray⟩, .int .i64 x, .string ⟨#[]⟩] w fun e w' => e = .returned (.string ⟨(lineL word (condL x [])).toArray⟩) ∧ Below w.heap.size w w' := by
  by_cases h : x = 4
  · subst h
    exact when_b word hw w
  · have e : condL x [] = [pickL x condN] := if_neg h
    rw [e]
    exact when_d word hw x (by simpa using h) w
end Go.Proofs.YtaggebfcfebomaaDoor
