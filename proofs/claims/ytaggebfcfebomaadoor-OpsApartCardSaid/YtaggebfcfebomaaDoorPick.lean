/-
  What ops.pick and the functions of names return: for every world and every number.
-/
import Derived.Test.YtaggebfcfebomaaDoorLow
namespace Go.Proofs.YtaggebfcfebomaaDoor
open Go.ChangeShapes Go.WideShapes Go.ChangeAt Go.RowKit
set_option linter.unusedVariables false

/-- The name with number n, or a question mark. -/
def pickL (n : Int) (l : List (List UInt8)) : List UInt8 := if 0 ≤ n ∧ n < l.length then l.getD n.toNat [] else [63]
def placeN : List (List UInt8) := [[98], [99], [100], [101], [104], [108], [40, 104, 108, 41], [97]]
def pairN : List (List UInt8) := [[98, 99], [100, 101], [104, 108], [115, 112], [97, 102]]
def bitN : List (List UInt8) := [[48], [49], [50], [51], [52], [53], [54], [55]]
def thruN : List (List UInt8) := [[40, 98, 99, 41], [40, 100, 101, 41], [40, 104, 108, 43, 41], [40, 104, 108, 45, 41]]
def sumN : List (List UInt8) := [[97, 100, 100], [97, 100, 99], [115, 117, 98], [115, 98, 99], [97, 110, 100], [120, 111, 114], [111, 114], [99, 112]]
def turnN : List (List UInt8) := [[114, 108, 99], [114, 114, 99], [114, 108], [114, 114], [115, 108, 97], [115, 114, 97], [115, 119, 97, 112], [115, 114, 108]]
def turnAN : List (List UInt8) := [[114, 108, 99, 97], [114, 114, 99, 97], [114, 108, 97], [114, 114, 97]]
def condN : List (List UInt8) := [[110, 122], [122], [110, 99], [99]]
/-- The block b holds just these texts. -/
def Texts (w : World) (b : Nat) (l : List (List UInt8)) : Prop := b < w.heap.size ∧ ∀ j (hj : j < l.length), w.cell? ⟨b, j, none⟩ = some (.string ⟨(l[j]).toArray⟩)
theorem Texts.new (w : World) (l : List (List UInt8)) (A : Array Value) (hA : A = (l.map fun x => Value.string ⟨x.toArray⟩).toArray) (t : TypeId) : Texts (w.alloc (.cells A t)) w.heap.size l := by
  subst hA
  have h := Has.new w (l.map fun x => Value.string ⟨x.toArray⟩).toArray t
  refine ⟨h.1, fun j hj => ?_⟩
  rw [h.2.1 j]
  simp [hj]
theorem Texts.newB (w : World) (l : List (List UInt8)) (A : Array Value) (hA : A = (l.map fun x => Value.string ⟨x.toArray⟩).toArray) (t : TypeId) (b : Nat) (hb : b = w.heap.size) : Texts (w.alloc (.cells A t)) b l := hb ▸ Texts.new w l A hA t
theorem Texts.below {w w' : World} {b : Nat} {l : List (List UInt8)} (h : Texts w b l) (hb : Below w.heap.size w w') : Texts w' b l :=
  ⟨Nat.lt_of_lt_of_le h.1 hb.size, fun j hj => (hb.cell (p := ⟨b, j, none⟩) h.1).trans (h.2 j hj)⟩
set_option maxRecDepth 100000 in
set_option maxHeartbeats 2000000 in
theorem pick_c (n : Int) (l : List (List UInt8)) (b m : Nat) (hm : l.length = m) (hm2 : m ≤ 8) (w : World) (h : Texts w b l) : Calls Tryd.prog 41 #[.int .i64 n, .slice (some ⟨b, 0, none⟩) m m] w fun e w' =>
    e = .returned (.string ⟨(pickL n l).toArray⟩) ∧ w = w' := by
  by_cases h1 : n < 0
  · have e1 : pickL n l = [63] := if_neg (by omega)
    rw [e1]
    have d1 : decide (n < 0) = true := by simpa using h1
    clear e1 hm h
    go_enter Tryd.func41, Tryd.ntmps41
    go_wp2
    go_ret
    exact ⟨rfl, rfl⟩
  · by_cases h2 : n < m
    · obtain ⟨k, rfl⟩ := Int.eq_ofNat_of_zero_le (show 0 ≤ n by omega)
      have hk : k < m := by omega
      have hk' : k < l.length := by omega
      have e1 : pickL (k : Int) l = l[k] := by
        unfold pickL
        rw [if_pos ⟨by omega, by omega⟩]
        simp [List.getD, List.getElem?_eq_getElem hk']
      rw [e1]
      have g := h.2 k hk'
      generalize l[k] = x at g ⊢
      clear e1 hm h hk' h1 h2
      go_enter Tryd.func41, Tryd.ntmps41
      go_wp2
      go_ret
      exact ⟨rfl, rfl⟩
    · have e1 : pickL n l = [63] := if_neg (by omega)
      rw [e1]
      clear e1 hm h
      have d1 : decide (n < 0) = false := by simpa using h1
      have d2 : decide (m ≤ n) = true := by simpa using h2
      go_enter Tryd.func41, Tryd.ntmps41
      go_wp2
      go_ret
      exact ⟨rfl, rfl⟩
set_option maxRecDepth 100000 in
set_option maxHeartbeats 2000000 in
theorem place_c (n : Int) (w : World) : Calls Tryd.prog 44 #[.int .i64 n] w fun e w' => e = .returned (.string ⟨(pickL n placeN).toArray⟩) ∧ Below w.heap.size w w' := by
  go_enter Tryd.func44, Tryd.ntmps44
  go_wp2_with fail
  refine (pick_c n placeN w.heap.size 8 rfl (by omega) _ (Texts.new w _ _ rfl _)).mono ?_
  rintro e w' ⟨rfl, rfl⟩
  go_wp2
  go_ret
  exact ⟨rfl, own1 _ _⟩
set_option maxRecDepth 100000 in
set_option maxHeartbeats 2000000 in
theorem pair_c (n : Int) (w : World) : Calls Tryd.prog 46 #[.int .i64 n] w fun e w' => e = .returned (.string ⟨(pickL n pairN).toArray⟩) ∧ Below w.heap.size w w' := by
  go_enter Tryd.func46, Tryd.ntmps46
  go_wp2_with fail
  refine (pick_c n pairN w.heap.size 5 rfl (by omega) _ (Texts.new w _ _ rfl _)).mono ?_
  rintro e w' ⟨rfl, rfl⟩
  go_wp2
  go_ret
  exact ⟨rfl, own1 _ _⟩
set_option maxRecDepth 100000 in
set_option maxHeartbeats 2000000 in
theorem bit_c (n : Int) (w : World) : Calls Tryd.prog 48 #[.int .i64 n] w fun e w' => e = .returned (.string ⟨(pickL n bitN).toArray⟩) ∧ Below w.heap.size w w' := by
  go_enter Tryd.func48, Tryd.ntmps48
  go_wp2_with fail
  refine (pick_c n bitN w.heap.size 8 rfl (by omega) _ (Texts.new w _ _ rfl _)).mono ?_
  rintro e w' ⟨rfl, rfl⟩
  go_wp2
  go_ret
  exact ⟨rfl, own1 _ _⟩
set_option maxRecDepth 100000 in
set_option maxHeartbeats 2000000 in
theorem thru_c (n : Int) (w : World) : Calls Tryd.prog 61 #[.int .i64 n] w fun e w' => e = .returned (.string ⟨(pickL n thruN).toArray⟩) ∧ Below w.heap.size w w' := by
  go_enter Tryd.func61, Tryd.ntmps61
  go_wp2_with fail
  refine (pick_c n thruN w.heap.size 4 rfl (by omega) _ (Texts.new w _ _ rfl _)).mono ?_
  rintro e w' ⟨rfl, rfl⟩
  go_wp2
  go_ret
  exact ⟨rfl, own1 _ _⟩
end Go.Proofs.YtaggebfcfebomaaDoor
