/-
  What the document's hex, pick, names and when return: for every world and every number.
-/
import Derived.Test.YtaggebfcfebomaaDoorCond
import Derived.Test.YtaggebfcfebomaaDoorLine
import Derived.Test.YtaggebfcfebomaaDoorText
namespace Go.Proofs.YtaggebfcfebomaaDoor
open Go.ChangeShapes Go.WideShapes Go.ChangeAt Go.RowKit
set_option linter.unusedVariables false
set_option maxRecDepth 100000 in
set_option maxHeartbeats 2000000 in
theorem rpick_c (n : Int) (l : List (List UInt8)) (b m : Nat) (hm : l.length = m) (hm2 : m ≤ 8) (w : World) (h : Texts w b l) : Calls Tryd.prog 29 #[.int .i64 n, .slice (some ⟨b, 0, none⟩) m m] w fun e w' =>
    e = .returned (.string ⟨(pickL n l).toArray⟩) ∧ w = w' := by
  by_cases h1 : n < 0
  · have e1 : pickL n l = [63] := if_neg (by omega)
    rw [e1]
    have d1 : decide (n < 0) = true := by simpa using h1
    clear e1 hm h
    go_enter Tryd.func29, Tryd.ntmps29
    go_wp2
    go_ret
    exact ⟨rfl, rfl⟩
  · by_cases h2 : n < m
    · obtain ⟨k, rfl⟩ := Int.eq_ofNat_of_zero_le (show 0 ≤ n by omega)
      have hk : k < m := by omega
      have hk' : k < l.length := by omega
      have e1 : pickL (k : Int) l = l[k] := by
        unfold pickL
        rw [if_pos ⟨by omega, by omega⟩]
        simp [List.getD, List.getElem?_eq_getElem hk']
      rw [e1]
      have g := h.2 k hk'
      generalize l[k] = x at g ⊢
      clear e1 hm h hk' h1 h2
      go_enter Tryd.func29, Tryd.ntmps29
      go_wp2
      go_ret
      exact ⟨rfl, rfl⟩
    · have e1 : pickL n l = [63] := if_neg (by omega)
      rw [e1]
      clear e1 hm h
      have d1 : decide (n < 0) = false := by simpa using h1
      have d2 : decide (m ≤ n) = true := by simpa using h2
      go_enter Tryd.func29, Tryd.ntmps29
      go_wp2
      go_ret
      exact ⟨rfl, rfl⟩
set_option maxRecDepth 100000 in
set_option maxHeartbeats 2000000 in
theorem one_c (n : Int) (w : World) : Calls Tryd.prog 25 #[.int .i64 n] w fun e w' => e = .returned (.string ⟨(pickL n placeN).toArray⟩) ∧ Below w.heap.size w w' := by
  go_enter Tryd.func25, Tryd.ntmps25
  go_wp2_with fail
  refine (rpick_c n placeN w.heap.size 8 rfl (by omega) _ (Texts.new w _ _ rfl _)).mono ?_
  rintro e w' ⟨rfl, rfl⟩
  go_wp2
  go_ret
  exact ⟨rfl, own1 _ _⟩
set_option maxRecDepth 100000 in
set_option maxHeartbeats 2000000 in
theorem two_c (n : Int) (w : World) : Calls Tryd.prog 26 #[.int .i64 n] w fun e w' => e = .returned (.string ⟨(pickL n pairN).toArray⟩) ∧ Below w.heap.size w w' := by
  go_enter Tryd.func26, Tryd.ntmps26
  go_wp2_with fail
  refine (rpick_c n pairN w.heap.size 5 rfl (by omega) _ (Texts.new w _ _ rfl _)).mono ?_
  rintro e w' ⟨rfl, rfl⟩
  go_wp2
  go_ret
  exact ⟨rfl, own1 _ _⟩
set_option maxRecDepth 100000 in
set_option maxHeartbeats 2000000 in
theorem rbits_c (n : Int) (w : World) : Calls Tryd.prog 32 #[.int .i64 n] w fun e w' => e = .returned (.string ⟨(pickL n bitN).toArray⟩) ∧ Below w.heap.size w w' := by
  go_enter Tryd.func32, Tryd.ntmps32
  go_wp2_with fail
  refine (rpick_c n bitN w.heap.size 8 rfl (by omega) _ (Texts.new w _ _ rfl _)).mono ?_
  rintro e w' ⟨rfl, rfl⟩
  go_wp2
  go_ret
  exact ⟨rfl, own1 _ _⟩
set_option maxRecDepth 100000 in
set_option maxHeartbeats 2000000 in
theorem rfar_c (n : Int) (w : World) : Calls Tryd.prog 31 #[.int .i64 n] w fun e w' => e = .returned (.string ⟨(pickL n thruN).toArray⟩) ∧ Below w.heap.size w w' := by
  go_enter Tryd.func31, Tryd.ntmps31
  go_wp2_with fail
  refine (rpick_c n thruN w.heap.size 4 rfl (by omega) _ (Texts.new w _ _ rfl _)).mono ?_
  rintro e w' ⟨rfl, rfl⟩
  go_wp2
  go_ret
  exact ⟨rfl, own1 _ _⟩
set_option maxRecDepth 100000 in
set_option maxHeartbeats 2000000 in
theorem rsum_c (n : Int) (w : World) : Calls Tryd.prog 27 #[.int .i64 n] w fun e w' => e = .returned (.string ⟨(pickL n sumN).toArray⟩) ∧ Below w.heap.size w w' := by
  go_enter Tryd.func27, Tryd.ntmps27
  go_wp2_with fail
  refine (rpick_c n sumN w.heap.size 8 rfl (by omega) _ (Texts.new w _ _ rfl _)).mono ?_
  rintro e w' ⟨rfl, rfl⟩
  go_wp2
  go_ret
  exact ⟨rfl, own1 _ _⟩
set_option maxRecDepth 100000 in
set_option maxHeartbeats 2000000 in
theorem rturn_c (n : Int) (w : World) : Calls Tryd.prog 28 #[.int .i64 n] w fun e w' => e = .returned (.string ⟨(pickL n turnN).toArray⟩) ∧ Below w.heap.size w w' := by
  go_enter Tryd.func28, Tryd.ntmps28
  go_wp2_with fail
  refine (rpick_c n turnN w.heap.size 8 rfl (by omega) _ (Texts.new w _ _ rfl _)).mono ?_
  rintro e w' ⟨rfl, rfl⟩
  go_wp2
  go_ret
  exact ⟨rfl, own1 _ _⟩

theorem dg16' : ∀ v : Fin 16, (⟨#[48, 49, 50, 51, 52, 53, 54, 55, 56, 57, 97, 98, 99, 100, 101, 102]⟩ : ByteArray)[v.val]'(Nat.lt_of_lt_of_le v.isLt (by decide)) = hexb v.val := by decide +kernel
theorem dgb' (v : Nat) (h : v < 16) (h' : v < (⟨#[48, 49, 50, 51, 52, 53, 54, 55, 56, 57, 97, 98, 99, 100, 101, 102]⟩ : ByteArray).size) :
    (⟨#[48, 49, 50, 51, 52, 53, 54, 55, 56, 57, 97, 98, 99, 100, 101, 102]⟩ : ByteArray)[v]'h' = hexb v := dg16' ⟨v, h⟩
theorem conv1 (d : UInt8) (w : World) (c : Nat) (h : w.cell? ⟨c, 0, none⟩ = some (.int .u8 (d.toNat : Int))) : (convert 37 9 (.slice (some ⟨c, 0, none⟩) 1 1)).run Tryd.prog w = .ok (.string ⟨#[d]⟩) w := by
  have hadd : (⟨c, 0, none⟩ : Addr).add 0 = ⟨c, 0, none⟩ := by unfold Addr.add; split <;> simp_all
  exact run_convert_bytes_back (P := Tryd.prog) w 37 9 5 ⟨c, 0, none⟩ 1 [d] Tryd.underlying37 Tryd.underlying5 Tryd.underlying9 (fun j hj => by
    obtain rfl : j = 0 := by simpa using hj
    rw [hadd, h]; rfl)
set_option maxRecDepth 100000 in
set_option maxHeartbeats 2000000 in
theorem rhex_c (n m : Nat) (hn : n < 65536) (hm : m ≤ 4) (w : World) : Calls Tryd.prog 24 #[.int .u16 n, .int .i64 m] w fun e w' => e = .returned (.string ⟨(hexs n m).toArray⟩) ∧ Below w.heap.size w w' := by
  go_enter Tryd.func24, Tryd.ntmps24
  go_wp2
  go_loopg [5, 7, 8] m (fun g s5 s7 s8 wr => ∃ i : Nat, i ≤ m ∧ g = m - i ∧ s5 = .string ⟨(hexs n i).toArray⟩ ∧ s7 = .int .i64 (sh n i : Nat) ∧ s8 = .int .i64 i ∧ Below w.heap.size w wr)
  case atStart => exact ⟨0, by omega, rfl, rfl, by simp [sh], rfl, Below.refl _ _⟩
  case round =>
    obtain ⟨i, hi, rfl, rfl, rfl, rfl, hw⟩ := hrel
    have W1 := Lib.hid hw
    clear hw
    have hs : sh n i < 65536 := Nat.lt_of_le_of_lt (Nat.div_le_self _ _) hn
    have hl := hexs_len n i
    by_cases hlt : i < m
    · have h16 : sh n i % 16 < 16 := Nat.mod_lt _ (by decide)
      have hq : ¬ 9223372036854775807 < 1 + (hexs n i).length := by rw [hl]; omega
      have hcv := conv1 ((⟨#[48, 49, 50, 51, 52, 53, 54, 55, 56, 57, 97, 98, 99, 100, 101, 102]⟩ : ByteArray)[sh n i % 16]'h16) (wr.alloc (.cells #[.int .u8 (((⟨#[48, 49, 50, 51, 52, 53, 54, 55, 56, 57, 97, 98, 99, 100, 101, 102]⟩ : ByteArray)[sh n i % 16]'h16).toNat : Int)] 5)) wr.heap.size (by simp)
      have HL := Lib.hid hl
      clear hl
      go_wp2
      go_roundg (m - (i + 1))
      case measure => omega
      case rel =>
        refine ⟨i + 1, by omega, rfl, ?_, by rw [sh_succ]; go_num, by go_num, via W1.out (own1 _ _)⟩
        rw [dgb' _ h16]
        show Value.string (⟨[hexb (sh n i % 16)].toArray⟩ ++ ⟨(hexs n i).toArray⟩) = _
        rw [cat]
        rfl
    · obtain rfl : i = m := by omega
      clear hl
      go_wp2
      go_ret
      exact ⟨rfl, W1.out⟩
end Go.Proofs.YtaggebfcfebomaaDoor
