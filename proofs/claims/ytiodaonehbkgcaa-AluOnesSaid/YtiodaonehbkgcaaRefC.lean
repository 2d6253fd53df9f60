/-
  What the document's answer for layer 1 returns for differences and for what is made bit by bit: contracts of the calls, with no condition but that each argument fits its kind.
-/
import Derived.Test.YtiodaonehbkgcaaRefB
namespace Go.Proofs.Ytiodaonehbkgcaa
open Go.ChangeShapes Go.WideShapes Go.ChangeAt Go.RowKit
set_option linter.unusedVariables false

/-! ### Sub -/
def subc (a b : Int) (c : Bool) : Nat → Int
  | 0 => fl 1 c
  | k + 1 => if bt a k - bt b k - subc a b c k < 0 then 1 else 0
def subs (a b : Int) (c : Bool) (k : Nat) : Int := if bt a k - bt b k - subc a b c k < 0 then bt a k - bt b k - subc a b c k + 2 else bt a k - bt b k - subc a b c k
theorem subc_b (a b : Int) (c : Bool) (k : Nat) : 0 ≤ subc a b c k ∧ subc a b c k ≤ 1 := by
  cases k with
  | zero => exact fl_bd 1 (by decide) c
  | succ k => unfold subc; split <;> omega
theorem subs_b (a b : Int) (c : Bool) (k : Nat) : 0 ≤ subs a b c k ∧ subs a b c k ≤ 1 := by
  have := subc_b a b c k; have := bt_b a k; have := bt_b b k
  unfold subs; split <;> omega

set_option maxHeartbeats 2000000 in
theorem sub_r (a b : Int) (c : Bool) (h1 : 0 ≤ a) (h2 : a < 256) (h3 : 0 ≤ b) (h4 : b < 256) (w : World) :
    Calls Try.prog 14 #[.int .u8 a, .int .u8 b, .bool c] w fun e w' => e = .returned (.tuple #[.int .u8 (val (bl (subs a b c) 8)), .int .u8 (FL (val (bl (subs a b c) 8) == 0) true (subc a b c 4 == 1) (subc a b c 8 == 1))]) ∧ Below w.heap.size w w' := by
  obtain ⟨i0, hi, hz0, hz1, hz2⟩ := info_parts Try.info3
  go_enter Try.func14, Try.ntmps14
  go_wp2_with (go_at_call 37; refine (one_r _ _).mono ?_; rintro e w' ⟨rfl, rfl⟩)
  go_loopw [8, 9, 10, 11] (fun cv h l i wr => ∃ k : Nat, k ≤ 8 ∧ i = .int .i64 k ∧ cv = .int .i64 (subc a b c k) ∧ h = .bool (hv (subc a b c 4) k) ∧ wr.ownsRow w.heap.size 3 1 l k (iv (bl (subs a b c) k)) ∧ Below w.heap.size w wr)
    (fun _ _ _ i _ => 8 - (intOf i).toNat)
  case atStart => exact ⟨0, by omega, rfl, rfl, rfl, World.ownsRow_nil _ _ _ _, Below.refl _ _⟩
  case round =>
    obtain ⟨k, hk, rfl, rfl, rfl, hown, hnx⟩ := hrel
    have hca := subc_b a b c k
    have hba := bt_b a k
    have hbb := bt_b b k
    by_cases hlt : k < 8
    · by_cases hneg : bt a k - bt b k - subc a b c k < 0
      · have es : Hid (subs a b c k = bt a k - bt b k - subc a b c k + 2) := if_pos hneg
        have ec : Hid (subc a b c (k + 1) = 1) := if_pos hneg
        go_wp2_with (first
          | (go_at_call 38; refine (bit_r _ _ (by omega) (by omega) (by omega) _).mono ?_; rintro e w' ⟨rfl, rfl⟩)
          | (at_builtin; refine wpList_append_own _ rfl _ _ 44 rfl w.heap.size 3 i0 (.int .i64 0) 1 8 Try.underlying44 hi hz0 hz1 hz2 rfl (by decide) _ _ _ rfl (hown.alloc _) ⟨wr.heap.size, 0, none⟩ 1 1 [.int .i64 (subs a b c k)] rfl rfl ?c1 ?c2 ?c3 ?c4 ?c5 ?_))
        case c1 => exact one_cell wr _ _ (by rw [es.out])
        case c2 => intro u hu; simp at hu; subst hu; rfl
        case c3 => unfold maxLen; omega
        case c4 => omega
        case c5 => have := hnx.size; simp; omega
        intro v' w1 hown' hgrow _
        have R := own_next hnx hown hown' hgrow
        clear hown' hgrow hown
        by_cases h3 : k = 3
        · have e3 : (((k : Nat) : Int) == 3) = true := by simp; omega
          have H3 := Lib.hid h3
          clear h3
          go_wp2
          go_roundw
          case rel => exact ⟨k + 1, by omega, by go_num, by rw [ec.out], by have := ec.out; rw [H3.out] at this ⊢; rw [show subc a b c 4 = 1 from this]; rfl, R.1, R.2⟩
          case measure => simp [intOf]; omega
        · have e3 : (((k : Nat) : Int) == 3) = false := by simp; omega
          go_wp2
          go_roundw
          case rel => exact ⟨k + 1, by omega, by go_num, by rw [ec.out], by rw [hv_succ _ _ h3], R.1, R.2⟩
          case measure => simp [intOf]; omega
      · have es : Hid (subs a b c k = bt a k - bt b k - subc a b c k) := if_neg hneg
        have ec : Hid (subc a b c (k + 1) = 0) := if_neg hneg
        go_wp2_with (first
          | (go_at_call 38; refine (bit_r _ _ (by omega) (by omega) (by omega) _).mono ?_; rintro e w' ⟨rfl, rfl⟩)
          | (at_builtin; refine wpList_append_own _ rfl _ _ 44 rfl w.heap.size 3 i0 (.int .i64 0) 1 8 Try.underlying44 hi hz0 hz1 hz2 rfl (by decide) _ _ _ rfl (hown.alloc _) ⟨wr.heap.size, 0, none⟩ 1 1 [.int .i64 (subs a b c k)] rfl rfl ?d1 ?d2 ?d3 ?d4 ?d5 ?_))
        case d1 => exact one_cell wr _ _ (by rw [es.out])
        case d2 => intro u hu; simp at hu; subst hu; rfl
        case d3 => unfold maxLen; omega
        case d4 => omega
        case d5 => have := hnx.size; simp; omega
        intro v' w1 hown' hgrow _
        have R := own_next hnx hown hown' hgrow
        clear hown' hgrow hown
        by_cases h3 : k = 3
        · have e3 : (((k : Nat) : Int) == 3) = true := by simp; omega
          have H3 := Lib.hid h3
          clear h3
          go_wp2
          go_roundw
          case rel => exact ⟨k + 1, by omega, by go_num, by rw [ec.out], by have := ec.out; rw [H3.out] at this ⊢; rw [show subc a b c 4 = 0 from this]; rfl, R.1, R.2⟩
          case measure => simp [intOf]; omega
        · have e3 : (((k : Nat) : Int) == 3) = false := by simp; omega
          go_wp2
          go_roundw
          case rel => exact ⟨k + 1, by omega, by go_num, by rw [ec.out], by rw [hv_succ _ _ h3], R.1, R.2⟩
          case measure => simp [intOf]; omega
    · obtain rfl : k = 8 := by omega
      obtain ⟨g, cap, hv8, hcells⟩ := own8 (bl_len _ _) hown
      have hbo := byteOf_r (bl (subs a b c) 8) g cap wr (bl_len _ _) (bl_mem _ (subs_b a b c) 8) hcells
      have hvb := val_b (bl (subs a b c) 8) (by rw [bl_len]; omega) (bl_mem _ (subs_b a b c) 8)
      clear hcells hown
      rw [hv8]
      clear hv8
      go_wp2_with (first
        | (go_at_call 39; refine hbo.mono ?_; rintro e w' ⟨rfl, rfl⟩)
        | (go_at_call 40; refine (flags_r _ _ _ _ _).mono ?_; rintro e w' ⟨rfl, rfl⟩))
      go_ret2
      exact ⟨rfl, hnx⟩

/-! ### And, or, xor -/
def lg0 (a b : Int) (k : Nat) : Int := bt a k * bt b k
def lg1 (a b : Int) (k : Nat) : Int := if bt a k = 1 ∨ bt b k = 1 then 1 else 0
def lg2 (a b : Int) (k : Nat) : Int := (bt a k + bt b k) % 2
theorem lg0_b (a b : Int) (k : Nat) : 0 ≤ lg0 a b k ∧ lg0 a b k ≤ 1 := by
  have h1 := bt_b a k; have h2 := bt_b b k
  unfold lg0
  rcases (show bt a k = 0 ∨ bt a k = 1 by omega) with h | h <;> rw [h] <;> omega
theorem lg1_b (a b : Int) (k : Nat) : 0 ≤ lg1 a b k ∧ lg1 a b k ≤ 1 := by unfold lg1; split <;> omega
theorem lg2_b (a b : Int) (k : Nat) : 0 ≤ lg2 a b k ∧ lg2 a b k ≤ 1 := by unfold lg2; omega
theorem lg0_eq (a b : Int) (k : Nat) : lg0 a b k = wrap64 (bt a k * bt b k) := by
  have := lg0_b a b k; unfold lg0 at *; unfold wrap64; omega

set_option maxHeartbeats 1000000 in
theorem logic0_r (a b : Int) (h1 : 0 ≤ a) (h2 : a < 256) (h3 : 0 ≤ b) (h4 : b < 256) (w : World) :
    Calls Try.prog 16 #[.int .i64 0, .int .u8 a, .int .u8 b] w fun e w' => e = .returned (.tuple #[.int .u8 (val (bl (lg0 a b) 8)), .int .u8 (FL (val (bl (lg0 a b) 8) == 0) false true false)]) ∧ Below w.heap.size w w' := by
  obtain ⟨i0, hi, hz0, hz1, hz2⟩ := info_parts Try.info3
  go_enter Try.func16, Try.ntmps16
  go_wp2
  go_loopw [8, 9] (fun l i wr => ∃ k : Nat, k ≤ 8 ∧ i = .int .i64 k ∧ wr.ownsRow w.heap.size 3 1 l k (iv (bl (lg0 a b) k)) ∧ Below w.heap.size w wr)
    (fun _ i _ => 8 - (intOf i).toNat)
  case atStart => exact ⟨0, by omega, rfl, World.ownsRow_nil _ _ _ _, Below.refl _ _⟩
  case round =>
    obtain ⟨k, hk, rfl, hown, hnx⟩ := hrel
    have hba := bt_b a k
    have hbb := bt_b b k
    have hg := lg0_b a b k
    have HG := Lib.hid (lg0_eq a b k)
    by_cases hlt : k < 8
    · go_wp2_with (first
        | (go_at_call 38; refine (bit_r _ _ (by omega) (by omega) (by omega) _).mono ?_; rintro e w' ⟨rfl, rfl⟩)
        | (at_builtin; refine wpList_append_own _ rfl _ _ 44 rfl w.heap.size 3 i0 (.int .i64 0) 1 8 Try.underlying44 hi hz0 hz1 hz2 rfl (by decide) _ _ _ rfl (hown.alloc _) ⟨wr.heap.size, 0, none⟩ 1 1 [.int .i64 (lg0 a b k)] rfl rfl ?c1 ?c2 ?c3 ?c4 ?c5 ?_))
      case c1 => exact one_cell wr _ _ (congrArg (Value.int .i64) HG.out.symm)
      case c2 => intro u hu; simp at hu; subst hu; rfl
      case c3 => unfold maxLen; omega
      case c4 => omega
      case c5 => have := hnx.size; simp; omega
      intro v' w1 hown' hgrow _
      have R := own_next hnx hown hown' hgrow
      clear hown' hgrow hown
      go_wp2
      go_roundw
      case rel => exact ⟨k + 1, by omega, by go_num, R.1, R.2⟩
      case measure => simp [intOf]; omega
    · obtain rfl : k = 8 := by omega
      obtain ⟨g, cap, hv8, hcells⟩ := own8 (bl_len _ _) hown
      have hbo := byteOf_r (bl (lg0 a b) 8) g cap wr (bl_len _ _) (bl_mem _ (lg0_b a b) 8) hcells
      have hvb := val_b (bl (lg0 a b) 8) (by rw [bl_len]; omega) (bl_mem _ (lg0_b a b) 8)
      clear hcells hown HG
      rw [hv8]
      clear hv8
      go_wp2_with (first
        | (go_at_call 39; refine hbo.mono ?_; rintro e w' ⟨rfl, rfl⟩)
        | (go_at_call 40; refine (flags_r _ _ _ _ _).mono ?_; rintro e w' ⟨rfl, rfl⟩))
      go_ret2
      exact ⟨rfl, hnx⟩
theorem lg1_eq (a b : Int) (k : Nat) : lg1 a b k = max (bt a k) (bt b k) := by
  have := bt_b a k; have := bt_b b k; unfold lg1; split <;> omega

set_option maxHeartbeats 1000000 in
theorem logic1_r (a b : Int) (h1 : 0 ≤ a) (h2 : a < 256) (h3 : 0 ≤ b) (h4 : b < 256) (w : World) :
    Calls Try.prog 16 #[.int .i64 1, .int .u8 a, .int .u8 b] w fun e w' => e = .returned (.tuple #[.int .u8 (val (bl (lg1 a b) 8)), .int .u8 (FL (val (bl (lg1 a b) 8) == 0) false false false)]) ∧ Below w.heap.size w w' := by
  obtain ⟨i0, hi, hz0, hz1, hz2⟩ := info_parts Try.info3
  go_enter Try.func16, Try.ntmps16
  go_wp2
  go_loopw [8, 9] (fun l i wr => ∃ k : Nat, k ≤ 8 ∧ i = .int .i64 k ∧ wr.ownsRow w.heap.size 3 1 l k (iv (bl (lg1 a b) k)) ∧ Below w.heap.size w wr)
    (fun _ i _ => 8 - (intOf i).toNat)
  case atStart => exact ⟨0, by omega, rfl, World.ownsRow_nil _ _ _ _, Below.refl _ _⟩
  case round =>
    obtain ⟨k, hk, rfl, hown, hnx⟩ := hrel
    have hba := bt_b a k
    have hbb := bt_b b k
    have hg := lg1_b a b k
    have HG := Lib.hid (lg1_eq a b k)
    by_cases hlt : k < 8
    · by_cases hm : bt a k < bt b k
      · have HM := Lib.hid (show lg1 a b k = bt b k by rw [HG.out]; omega)
        go_wp2_with (first
          | (go_at_call 38; refine (bit_r _ _ (by omega) (by omega) (by omega) _).mono ?_; rintro e w' ⟨rfl, rfl⟩)
          | (at_builtin; refine wpList_append_own _ rfl _ _ 44 rfl w.heap.size 3 i0 (.int .i64 0) 1 8 Try.underlying44 hi hz0 hz1 hz2 rfl (by decide) _ _ _ rfl (hown.alloc _) ⟨wr.heap.size, 0, none⟩ 1 1 [.int .i64 (lg1 a b k)] rfl rfl ?c1 ?c2 ?c3 ?c4 ?c5 ?_))
        case c1 => exact one_cell wr _ _ (congrArg (Value.int .i64) HM.out.symm)
        case c2 => intro u hu; simp at hu; subst hu; rfl
        case c3 => unfold maxLen; omega
        case c4 => omega
        case c5 => have := hnx.size; simp; omega
        intro v' w1 hown' hgrow _
        have R := own_next hnx hown hown' hgrow
        clear hown' hgrow hown
        go_wp2
        go_roundw
        case rel => exact ⟨k + 1, by omega, by go_num, R.1, R.2⟩
        case measure => simp [intOf]; omega

      · have HM := Lib.hid (show lg1 a b k = bt a k by rw [HG.out]; omega)
        go_wp2_with (first
          | (go_at_call 38; refine (bit_r _ _ (by omega) (by omega) (by omega) _).mono ?_; rintro e w' ⟨rfl, rfl⟩)
          | (at_builtin; refine wpList_append_own _ rfl _ _ 44 rfl w.heap.size 3 i0 (.int .i64 0) 1 8 Try.underlying44 hi hz0 hz1 hz2 rfl (by decide) _ _ _ rfl (hown.alloc _) ⟨wr.heap.size, 0, none⟩ 1 1 [.int .i64 (lg1 a b k)] rfl rfl ?d1 ?d2 ?d3 ?d4 ?d5 ?_))
        case d1 => exact one_cell wr _ _ (congrArg (Value.int .i64) HM.out.symm)
        case d2 => intro u hu; simp at hu; subst hu; rfl
        case d3 => unfold maxLen; omega
        case d4 => omega
        case d5 => have := hnx.size; simp; omega
        intro v' w1 hown' hgrow _
        have R := own_next hnx hown hown' hgrow
        clear hown' hgrow hown
        go_wp2
        go_roundw
        case rel => exact ⟨k + 1, by omega, by go_num, R.1, R.2⟩
        case measure => simp [intOf]; omega
    · obtain rfl : k = 8 := by omega
      obtain ⟨g, cap, hv8, hcells⟩ := own8 (bl_len _ _) hown
      have hbo := byteOf_r (bl (lg1 a b) 8) g cap wr (bl_len _ _) (bl_mem _ (lg1_b a b) 8) hcells
      have hvb := val_b (bl (lg1 a b) 8) (by rw [bl_len]; omega) (bl_mem _ (lg1_b a b) 8)
      clear hcells hown HG
      rw [hv8]
      clear hv8
      go_wp2_with (first
        | (go_at_call 39; refine hbo.mono ?_; rintro e w' ⟨rfl, rfl⟩)
        | (go_at_call 40; refine (flags_r _ _ _ _ _).mono ?_; rintro e w' ⟨rfl, rfl⟩))
      go_ret2
      exact ⟨rfl, hnx⟩
theorem lg2_eq (a b : Int) (k : Nat) : lg2 a b k = (bt a k + bt b k) % 2 := rfl

set_option maxHeartbeats 1000000 in
theorem logic2_r (a b : Int) (h1 : 0 ≤ a) (h2 : a < 256) (h3 : 0 ≤ b) (h4 : b < 256) (w : World) :
    Calls Try.prog 16 #[.int .i64 2, .int .u8 a, .int .u8 b] w fun e w' => e = .returned (.tuple #[.int .u8 (val (bl (lg2 a b) 8)), .int .u8 (FL (val (bl (lg2 a b) 8) == 0) false false false)]) ∧ Below w.heap.size w w' := by
  obtain ⟨i0, hi, hz0, hz1, hz2⟩ := info_parts Try.info3
  go_enter Try.func16, Try.ntmps16
  go_wp2
  go_loopw [8, 9] (fun l i wr => ∃ k : Nat, k ≤ 8 ∧ i = .int .i64 k ∧ wr.ownsRow w.heap.size 3 1 l k (iv (bl (lg2 a b) k)) ∧ Below w.heap.size w wr)
    (fun _ i _ => 8 - (intOf i).toNat)
  case atStart => exact ⟨0, by omega, rfl, World.ownsRow_nil _ _ _ _, Below.refl _ _⟩
  case round =>
    obtain ⟨k, hk, rfl, hown, hnx⟩ := hrel
    have hba := bt_b a k
    have hbb := bt_b b k
    have hg := lg2_b a b k
    have HG := Lib.hid (lg2_eq a b k)
    by_cases hlt : k < 8
    · go_wp2_with (first
        | (go_at_call 38; refine (bit_r _ _ (by omega) (by omega) (by omega) _).mono ?_; rintro e w' ⟨rfl, rfl⟩)
        | (at_builtin; refine wpList_append_own _ rfl _ _ 44 rfl w.heap.size 3 i0 (.int .i64 0) 1 8 Try.underlying44 hi hz0 hz1 hz2 rfl (by decide) _ _ _ rfl (hown.alloc _) ⟨wr.heap.size, 0, none⟩ 1 1 [.int .i64 (lg2 a b k)] rfl rfl ?c1 ?c2 ?c3 ?c4 ?c5 ?_))
      case c1 => exact one_cell wr _ _ (congrArg (Value.int .i64) HG.out.symm)
      case c2 => intro u hu; simp at hu; subst hu; rfl
      case c3 => unfold maxLen; omega
      case c4 => omega
      case c5 => have := hnx.size; simp; omega
      intro v' w1 hown' hgrow _
      have R := own_next hnx hown hown' hgrow
      clear hown' hgrow hown
      go_wp2
      go_roundw
      case rel => exact ⟨k + 1, by omega, by go_num, R.1, R.2⟩
      case measure => simp [intOf]; omega
    · obtain rfl : k = 8 := by omega
      obtain ⟨g, cap, hv8, hcells⟩ := own8 (bl_len _ _) hown
      have hbo := byteOf_r (bl (lg2 a b) 8) g cap wr (bl_len _ _) (bl_mem _ (lg2_b a b) 8) hcells
      have hvb := val_b (bl (lg2 a b) 8) (by rw [bl_len]; omega) (bl_mem _ (lg2_b a b) 8)
      clear hcells hown HG
      rw [hv8]
      clear hv8
      go_wp2_with (first
        | (go_at_call 39; refine hbo.mono ?_; rintro e w' ⟨rfl, rfl⟩)
        | (go_at_call 40; refine (flags_r _ _ _ _ _).mono ?_; rintro e w' ⟨rfl, rfl⟩))
      go_ret2
      exact ⟨rfl, hnx⟩
end Go.Proofs.Ytiodaonehbkgcaa
