/-
  What ops.line returns: for every world, a short word and short operands.
-/
import Derived.Test.YtaggebfcfebomaaDoorCond
import Derived.Test.YtaggebfcfebomaaDoorShelf
namespace Go.Proofs.YtaggebfcfebomaaDoor
open Go.ChangeShapes Go.WideShapes Go.ChangeAt Go.RowKit
set_option linter.unusedVariables false

/-- A word, and operands behind it. -/
def lineL (m : List UInt8) (l : List (List UInt8)) : List UInt8 := if l = [] then m else m ++ 32 :: Lib.join l [44, 32]
theorem line0_c (m : List UInt8) (w : World) : Calls Tryd.prog 21 #[.string ⟨(m).toArray⟩, .slice none 0 0] w fun e w' => e = .returned (.string ⟨(m).toArray⟩) ∧ w = w' := by
  go_enter Tryd.func21, Tryd.ntmps21
  go_wp2
  go_ret
  exact ⟨rfl, rfl⟩
theorem maps (l : List (List UInt8)) : (l.map fun x => (⟨x.toArray⟩ : ByteArray)).map (·.data.toList) = l := by
  rw [List.map_map]
  have : ((fun x : ByteArray => x.data.toList) ∘ fun x : List UInt8 => (⟨x.toArray⟩ : ByteArray)) = id := by
    funext x
    simp
  rw [this, List.map_id]
theorem join_c (l : List (List UInt8)) (b c k : Nat) (hk : l.length = k) (hc : l.length ≤ c) (hN : l.length ≤ 4) (hj : (Lib.join l [44, 32]).length ≤ 1000) (w : World) (h : Texts w b l) :
    Calls Tryd.prog 40 #[.slice (some ⟨b, 0, none⟩) k c, .string ⟨#[44, 32]⟩] w fun e w' => e = .returned (.string ⟨(Lib.join l [44, 32]).toArray⟩) ∧ Below w.heap.size w w' := by
  subst hk
  have H := strings_Join b 0 c (l.map fun x => (⟨x.toArray⟩ : ByteArray)) ⟨#[44, 32]⟩ w (fun j x hx => by
    have hj : j < l.length := by
      have := (List.getElem?_eq_some_iff.1 hx).1
      simpa using this
    have e := h.2 j hj
    rw [Nat.zero_add, e]
    simp [List.getElem?_eq_getElem hj] at hx
    rw [hx]) h.1 (by simp; omega) (by simpa using hc) (by rw [maps]; exact Nat.le_trans hj (by decide))
  rw [maps] at H
  simpa using H
set_option maxRecDepth 100000 in
theorem lineS_c (m : List UInt8) (hm : m.length ≤ 100) (l : List (List UInt8)) (hl : l ≠ []) (b c k : Nat) (hk : l.length = k) (hc : l.length ≤ c) (hN : l.length ≤ 4) (hj : (Lib.join l [44, 32]).length ≤ 1000) (w : World) (h : Texts w b l) :
    Calls Tryd.prog 21 #[.string ⟨(m).toArray⟩, .slice (some ⟨b, 0, none⟩) k c] w fun e w' => e = .returned (.string ⟨(lineL m l).toArray⟩) ∧ Below w.heap.size w w' := by
  have H := Lib.hid (join_c l b c k hk hc hN hj w h)
  have e1 : lineL m l = m ++ 32 :: Lib.join l [44, 32] := if_neg hl
  rw [e1]
  have hk0 : ((k : Int) == 0) = false := by
    have : 0 < l.length := List.length_pos_iff.2 hl
    rw [beq_eq_false_iff_ne]
    omega
  have hk1 : (k == 0) = false := by
    have : 0 < l.length := List.length_pos_iff.2 hl
    rw [beq_eq_false_iff_ne]
    omega
  generalize Lib.join l [44, 32] = J at H hj ⊢
  have q1 : ¬ 9223372036854775807 < m.length + 1 := by omega
  have q2 : ¬ 9223372036854775807 < m.length + 1 + J.length := by omega
  clear e1 h hk hc hN
  go_enter Tryd.func21, Tryd.ntmps21
  go_wp2_with fail
  refine H.out.mono ?_
  rintro e w1 ⟨rfl, hb⟩
  have HB := Lib.hid hb
  clear hb
  go_wp2
  go_ret
  refine ⟨?_, HB.out⟩
  rw [cat, cat]
  simp
end Go.Proofs.YtaggebfcfebomaaDoor
