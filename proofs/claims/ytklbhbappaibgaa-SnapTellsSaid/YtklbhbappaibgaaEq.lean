/-
  bytes.Equal, on any two slices of bytes: for every world in which they lie as told; no condition.
-/
import Derived.Test.YtklbhbappaibgaaMem
import Derived.Laws.IdiomStrings
import Derived.Laws.BytesArg
namespace Go.Proofs.Ytklbhbappaibgaa
open Go.ChangeShapes Go.WideShapes Go.ChangeAt Go.RowKit
set_option linter.unusedVariables false
set_option linter.unusedSimpArgs false
set_option maxRecDepth 100000
/-- The text of some bytes. -/
def strL (L : List Nat) : ByteArray := ⟨(L.map UInt8.ofNat).toArray⟩
theorem strL_list (L : List Nat) : (strL L).toList = L.map UInt8.ofNat := by rw [ByteArray.toList_eq]; rfl
theorem strL_inj {L M : List Nat} (hL : By L) (hM : By M) (h : (strL L).toList = (strL M).toList) : L = M := by
 have h1 : (L.map UInt8.ofNat) = (M.map UInt8.ofNat) := by rw [← strL_list, ← strL_list, h]
 have key : ∀ K : List Nat, By K → (K.map UInt8.ofNat).map UInt8.toNat = K := fun K hK => by
  rw [List.map_map]
  conv => rhs; rw [← List.map_id K]
  apply List.map_congr_left
  intro x hx
  have := hK x hx
  show (UInt8.ofNat x).toNat = x
  rw [UInt8.toNat_ofNat']
  omega
 rw [← key L hL, ← key M hM, h1]
theorem conv_run {w : World} {v : Value} {L : List Nat} (h : Rd w v L) : (convert 22 9 v).run Try.prog w = .ok (.string (strL L)) w := by
 obtain ⟨a, c, rfl, hc, hn, hb, hat⟩ := h
 rcases a with _ | a
 ·have e : L = [] := List.length_eq_zero_iff.1 (by have := hn rfl; omega)
  subst e
  exact run_convert_bytes_nil (P := Try.prog) w 22 5 Try.underlying22 Try.underlying5 _ c 9 Try.underlying9
 ·have h1 := run_convert_bytes_back (P := Try.prog) w 22 9 5 a c (L.map UInt8.ofNat) Try.underlying22 Try.underlying5 Try.underlying9 (fun j hj => by
   have hj' : j < L.length := by simpa using hj
   obtain ⟨b, o, e, _, hcell⟩ := hat (by omega)
   injection e with e
   subst e
   rw [Go.WideShapes.add_plain, hcell j _ (List.getElem?_eq_getElem hj')]
   have h5 := hb _ (List.getElem_mem hj')
   have h6 : ((L.map UInt8.ofNat)[j]'hj).toNat = L[j] := by
    rw [List.getElem_map, UInt8.toNat_ofNat']
    omega
   rw [h6])
  rw [List.length_map] at h1
  exact h1
set_option maxHeartbeats 1000000 in
theorem equal_c (v1 v2 : Value) (L1 L2 : List Nat) (q : Bool) (hq : q = true ↔ L1 = L2) (w : World) (h1 : Rd w v1 L1) (h2 : Rd w v2 L2) : Calls Try.prog 24 #[v1, v2] w fun q_ w' => q_ = .returned (.bool q) ∧ w' = w := by
 have c1 := conv_run h1
 have c2 := conv_run h2
 have he : ((strL L1).toList == (strL L2).toList) = q := by
  cases q with
  | true => rw [hq.1 rfl]; simp
  | false =>
   simp only [beq_eq_false_iff_ne, ne_eq]
   intro h
   have := hq.2 (strL_inj h1.by h2.by h)
   cases this
 generalize strL L1 = S1 at c1 he
 generalize strL L2 = S2 at c2 he
 clear hq h1 h2
 go_enter Try.func24, Try.ntmps24
 go_wp2
 go_ret
 exact ⟨rfl, rfl⟩
end Go.Proofs.Ytklbhbappaibgaa
