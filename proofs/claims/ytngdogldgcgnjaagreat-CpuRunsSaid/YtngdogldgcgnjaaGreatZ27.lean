/-
  What the document's answer for layer 1 returns for differences and for what is made bit by bit: contracts of the calls, with no condition but that each argument fits its kind.
  (Some texts in one.)
-/
import Derived.Test.YtngdogldgcgnjaaGreatZ26
set_option maxRecDepth 100000
set_option maxHeartbeats 8000000
namespace Go.Proofs.YtngdogldgcgnjaaGreat.Alu
open Go.ChangeShapes Go.WideShapes Go.ChangeAt Go.RowKit
set_option linter.unusedVariables false
/-! ### Sub -/
def subc (a b : Int) (c : Bool) : Nat → Int
 | 0 => fl 1 c
 | k + 1 => if bt a k - bt b k - subc a b c k < 0 then 1 else 0
def subs (a b : Int) (c : Bool) (k : Nat) : Int := if bt a k - bt b k - subc a b c k < 0 then bt a k - bt b k - subc a b c k + 2 else bt a k - bt b k - subc a b c k
theorem subc_b (a b : Int) (c : Bool) (k : Nat) : 0 ≤ subc a b c k ∧ subc a b c k ≤ 1 := by
 cases k with
 | zero => exact fl_bd 1 (by decide) c
 | succ k => unfold subc; split <;> omega
theorem subs_b (a b : Int) (c : Bool) (k : Nat) : 0 ≤ subs a b c k ∧ subs a b c k ≤ 1 := by
 have := subc_b a b c k; have := bt_b a k; have := bt_b b k
 unfold subs; split <;> omega
theorem sub_r (a b : Int) (c : Bool) (h1 : 0 ≤ a) (h2 : a < 256) (h3 : 0 ≤ b) (h4 : b < 256) (w : World) :
  Calls Tryz.prog 62 #[.int .u8 a, .int .u8 b, .bool c] w fun e w' => e = .returned (.tuple #[.int .u8 (val (bl (subs a b c) 8)), .int .u8 (FL (val (bl (subs a b c) 8) == 0) true (subc a b c 4 == 1) (subc a b c 8 == 1))]) ∧ Below w.heap.size w w' := by
 obtain ⟨i0, hi, hz0, hz1, hz2⟩ := info_parts Tryz.info3; go_enter Tryz.func62, Tryz.ntmps62
 go_wp2_with (go_at_call 66; refine (one_r _ _).mono ?_; rintro e w' ⟨rfl, rfl⟩)
 go_loopw [8, 9, 10, 11] (fun cv h l i wr => ∃ k : Nat, k ≤ 8 ∧ i = .int .i64 k ∧ cv = .int .i64 (subc a b c k) ∧ h = .bool (hv (subc a b c 4) k) ∧ wr.ownsRow w.heap.size 3 1 l k (iv (bl (subs a b c) k)) ∧ Below w.heap.size w wr)
  (fun _ _ _ i _ => 8 - (intOf i).toNat)
 case atStart => exact ⟨0, by omega, rfl, rfl, rfl, World.ownsRow_nil _ _ _ _, Below.refl _ _⟩
 case round =>
  obtain ⟨k, hk, rfl, rfl, rfl, hown, hnx⟩ := hrel; have hca := subc_b a b c k; have hba := bt_b a k; have hbb := bt_b b k
  by_cases hlt : k < 8
  ·by_cases hneg : bt a k - bt b k - subc a b c k < 0
   ·have es : Hid (subs a b c k = bt a k - bt b k - subc a b c k + 2) := if_pos hneg
    have ec : Hid (subc a b c (k + 1) = 1) := if_pos hneg
    go_wp2_with (first
     | (go_at_call 65; refine (bit_r _ _ (by omega) (by omega) (by omega) _).mono ?_; rintro e w' ⟨rfl, rfl⟩)
     | (at_builtin; refine wpList_append_own _ rfl _ _ 64 rfl w.heap.size 3 i0 (.int .i64 0) 1 8 Tryz.underlying64 hi hz0 hz1 hz2 rfl (by decide) _ _ _ rfl (hown.alloc _) ⟨wr.heap.size, 0, none⟩ 1 1 [.int .i64 (subs a b c k)] rfl rfl ?c1 ?c2 ?c3 ?c4 ?c5 ?_))
    case c1 => exact one_cell wr _ _ (by rw [es.out])
    case c2 => intro u hu; simp at hu; subst hu; rfl
    case c3 => unfold maxLen; omega
    case c4 => omega
    case c5 => have := hnx.size; simp; omega
    intro v' w1 hown' hgrow _
    have R := own_next hnx hown hown' hgrow; clear hown' hgrow hown
    by_cases h3 : k = 3
    ·have e3 : (((k : Nat) : Int) == 3) = true := by simp; omega
     have H3 := Lib.hid h3; clear h3; go_wp2
     go_roundw
     case rel => exact ⟨k + 1, by omega, by go_num, by rw [ec.out], by have := ec.out; rw [H3.out] at this ⊢; rw [show subc a b c 4 = 1 from this]; rfl, R.1, R.2⟩
     case measure => simp [intOf]; omega
    ·have e3 : (((k : Nat) : Int) == 3) = false := by simp; omega
     go_wp2
     go_roundw
     case rel => exact ⟨k + 1, by omega, by go_num, by rw [ec.out], by rw [hv_succ _ _ h3], R.1, R.2⟩
     case measure => simp [intOf]; omega
   ·have es : Hid (subs a b c k = bt a k - bt b k - subc a b c k) := if_neg hneg
    have ec : Hid (subc a b c (k + 1) = 0) := if_neg hneg
    go_wp2_with (first
     | (go_at_call 65; refine (bit_r _ _ (by omega) (by omega) (by omega) _).mono ?_; rintro e w' ⟨rfl, rfl⟩)
     | (at_builtin; refine wpList_append_own _ rfl _ _ 64 rfl w.heap.size 3 i0 (.int .i64 0) 1 8 Tryz.underlying64 hi hz0 hz1 hz2 rfl (by decide) _ _ _ rfl (hown.alloc _) ⟨wr.heap.size, 0, none⟩ 1 1 [.int .i64 (subs a b c k)] rfl rfl ?d1 ?d2 ?d3 ?d4 ?d5 ?_))
    case d1 => exact one_cell wr _ _ (by rw [es.out])
    case d2 => intro u hu; simp at hu; subst hu; rfl
    case d3 => unfold maxLen; omega
    case d4 => omega
    case d5 => have := hnx.size; simp; omega
    intro v' w1 hown' hgrow _
    have R := own_next hnx hown hown' hgrow; clear hown' hgrow hown
    by_cases h3 : k = 3
    ·have e3 : (((k : Nat) : Int) == 3) = true := by simp; omega
     have H3 := Lib.hid h3; clear h3; go_wp2
     go_roundw
     case rel => exact ⟨k + 1, by omega, by go_num, by rw [ec.out], by have := ec.out; rw [H3.out] at this ⊢; rw [show subc a b c 4 = 0 from this]; rfl, R.1, R.2⟩
     case measure => simp [intOf]; omega
    ·have e3 : (((k : Nat) : Int) == 3) = false := by simp; omega
     go_wp2
     go_roundw
     case rel => exact ⟨k + 1, by omega, by go_num, by rw [ec.out], by rw [hv_succ _ _ h3], R.1, R.2⟩
     case measure => simp [intOf]; omega
  ·obtain rfl : k = 8 := by omega
   obtain ⟨g, cap, hv8, hcells⟩ := own8 (bl_len _ _) hown
   have hbo := byteOf_r (bl (subs a b c) 8) g cap wr (bl_len _ _) (bl_mem _ (subs_b a b c) 8) hcells
   have hvb := val_b (bl (subs a b c) 8) (by rw [bl_len]; omega) (bl_mem _ (subs_b a b c) 8); clear hcells hown; rw [hv8]; clear hv8
   go_wp2_with (first
    | (go_at_call 67; refine hbo.mono ?_; rintro e w' ⟨rfl, rfl⟩)
    | (go_at_call 45; refine (flags_r _ _ _ _ _).mono ?_; rintro e w' ⟨rfl, rfl⟩))
   go_ret2
   exact ⟨rfl, hnx⟩
/-! ### And, or, xor -/
def lg0 (a b : Int) (k : Nat) : Int := bt a k * bt b k
def lg1 (a b : Int) (k : Nat) : Int := if bt a k = 1 ∨ bt b k = 1 then 1 else 0
def lg2 (a b : Int) (k : Nat) : Int := (bt a k + bt b k) % 2
theorem lg0_b (a b : Int) (k : Nat) : 0 ≤ lg0 a b k ∧ lg0 a b k ≤ 1 := by
 have h1 := bt_b a k; have h2 := bt_b b k
 unfold lg0
 rcases (show bt a k = 0 ∨ bt a k = 1 by omega) with h | h <;> rw [h] <;> omega
theorem lg1_b (a b : Int) (k : Nat) : 0 ≤ lg1 a b k ∧ lg1 a b k ≤ 1 := by unfold lg1; split <;> omega
theorem lg2_b (a b : Int) (k : Nat) : 0 ≤ lg2 a b k ∧ lg2 a b k ≤ 1 := by unfold lg2; omega
theorem lg0_eq (a b : Int) (k : Nat) : lg0 a b k = wrap64 (bt a k * bt b k) := by
 have := lg0_b a b k; unfold lg0 at *; unfold wrap64; omega
theorem logic0_r (a b : Int) (h1 : 0 ≤ a) (h2 : a < 256) (h3 : 0 ≤ b) (h4 : b < 256) (w : World) :
  Calls Tryz.prog 63 #[.int .i64 0, .int .u8 a, .int .u8 b] w fun e w' => e = .returned (.tuple #[.int .u8 (val (bl (lg0 a b) 8)), .int .u8 (FL (val (bl (lg0 a b) 8) == 0) false true false)]) ∧ Below w.heap.size w w' := by
 obtain ⟨i0, hi, hz0, hz1, hz2⟩ := info_parts Tryz.info3; go_enter Tryz.func63, Tryz.ntmps63; go_wp2
 go_loopw [8, 9] (fun l i wr => ∃ k : Nat, k ≤ 8 ∧ i = .int .i64 k ∧ wr.ownsRow w.heap.size 3 1 l k (iv (bl (lg0 a b) k)) ∧ Below w.heap.size w wr)
  (fun _ i _ => 8 - (intOf i).toNat)
 case atStart => exact ⟨0, by omega, rfl, World.ownsRow_nil _ _ _ _, Below.refl _ _⟩
 case round =>
  obtain ⟨k, hk, rfl, hown, hnx⟩ := hrel; have hba := bt_b a k; have hbb := bt_b b k; have hg := lg0_b a b k; have HG := Lib.hid (lg0_eq a b k)
  by_cases hlt : k < 8
  ·go_wp2_with (first
    | (go_at_call 65; refine (bit_r _ _ (by omega) (by omega) (by omega) _).mono ?_; rintro e w' ⟨rfl, rfl⟩)
    | (at_builtin; refine wpList_append_own _ rfl _ _ 64 rfl w.heap.size 3 i0 (.int .i64 0) 1 8 Tryz.underlying64 hi hz0 hz1 hz2 rfl (by decide) _ _ _ rfl (hown.alloc _) ⟨wr.heap.size, 0, none⟩ 1 1 [.int .i64 (lg0 a b k)] rfl rfl ?c1 ?c2 ?c3 ?c4 ?c5 ?_))
   case c1 => exact one_cell wr _ _ (congrArg (Value.int .i64) HG.out.symm)
   case c2 => intro u hu; simp at hu; subst hu; rfl
   case c3 => unfold maxLen; omega
   case c4 => omega
   case c5 => have := hnx.size; simp; omega
   intro v' w1 hown' hgrow _
   have R := own_next hnx hown hown' hgrow; clear hown' hgrow hown; go_wp2
   go_roundw
   case rel => exact ⟨k + 1, by omega, by go_num, R.1, R.2⟩
   case measure => simp [intOf]; omega
  ·obtain rfl : k = 8 := by omega
   obtain ⟨g, cap, hv8, hcells⟩ := own8 (bl_len _ _) hown
   have hbo := byteOf_r (bl (lg0 a b) 8) g cap wr (bl_len _ _) (bl_mem _ (lg0_b a b) 8) hcells
   have hvb := val_b (bl (lg0 a b) 8) (by rw [bl_len]; omega) (bl_mem _ (lg0_b a b) 8); clear hcells hown HG; rw [hv8]; clear hv8
   go_wp2_with (first
    | (go_at_call 67; refine hbo.mono ?_; rintro e w' ⟨rfl, rfl⟩)
    | (go_at_call 45; refine (flags_r _ _ _ _ _).mono ?_; rintro e w' ⟨rfl, rfl⟩))
   go_ret2
   exact ⟨rfl, hnx⟩
theorem lg1_eq (a b : Int) (k : Nat) : lg1 a b k = max (bt a k) (bt b k) := by
 have := bt_b a k; have := bt_b b k; unfold lg1; split <;> omega
theorem logic1_r (a b : Int) (h1 : 0 ≤ a) (h2 : a < 256) (h3 : 0 ≤ b) (h4 : b < 256) (w : World) :
  Calls Tryz.prog 63 #[.int .i64 1, .int .u8 a, .int .u8 b] w fun e w' => e = .returned (.tuple #[.int .u8 (val (bl (lg1 a b) 8)), .int .u8 (FL (val (bl (lg1 a b) 8) == 0) false false false)]) ∧ Below w.heap.size w w' := by
 obtain ⟨i0, hi, hz0, hz1, hz2⟩ := info_parts Tryz.info3; go_enter Tryz.func63, Tryz.ntmps63; go_wp2
 go_loopw [8, 9] (fun l i wr => ∃ k : Nat, k ≤ 8 ∧ i = .int .i64 k ∧ wr.ownsRow w.heap.size 3 1 l k (iv (bl (lg1 a b) k)) ∧ Below w.heap.size w wr)
  (fun _ i _ => 8 - (intOf i).toNat)
 case atStart => exact ⟨0, by omega, rfl, World.ownsRow_nil _ _ _ _, Below.refl _ _⟩
 case round =>
  obtain ⟨k, hk, rfl, hown, hnx⟩ := hrel; have hba := bt_b a k; have hbb := bt_b b k; have hg := lg1_b a b k; have HG := Lib.hid (lg1_eq a b k)
  by_cases hlt : k < 8
  ·by_cases hm : bt a k < bt b k
   ·have HM := Lib.hid (show lg1 a b k = bt b k by rw [HG.out]; omega)
    go_wp2_with (first
     | (go_at_call 65; refine (bit_r _ _ (by omega) (by omega) (by omega) _).mono ?_; rintro e w' ⟨rfl, rfl⟩)
     | (at_builtin; refine wpList_append_own _ rfl _ _ 64 rfl w.heap.size 3 i0 (.int .i64 0) 1 8 Tryz.underlying64 hi hz0 hz1 hz2 rfl (by decide) _ _ _ rfl (hown.alloc _) ⟨wr.heap.size, 0, none⟩ 1 1 [.int .i64 (lg1 a b k)] rfl rfl ?c1 ?c2 ?c3 ?c4 ?c5 ?_))
    case c1 => exact one_cell wr _ _ (congrArg (Value.int .i64) HM.out.symm)
    case c2 => intro u hu; simp at hu; subst hu; rfl
    case c3 => unfold maxLen; omega
    case c4 => omega
    case c5 => have := hnx.size; simp; omega
    intro v' w1 hown' hgrow _
    have R := own_next hnx hown hown' hgrow; clear hown' hgrow hown; go_wp2
    go_roundw
    case rel => exact ⟨k + 1, by omega, by go_num, R.1, R.2⟩
    case measure => simp [intOf]; omega
   ·have HM := Lib.hid (show lg1 a b k = bt a k by rw [HG.out]; omega)
    go_wp2_with (first
     | (go_at_call 65; refine (bit_r _ _ (by omega) (by omega) (by omega) _).mono ?_; rintro e w' ⟨rfl, rfl⟩)
     | (at_builtin; refine wpList_append_own _ rfl _ _ 64 rfl w.heap.size 3 i0 (.int .i64 0) 1 8 Tryz.underlying64 hi hz0 hz1 hz2 rfl (by decide) _ _ _ rfl (hown.alloc _) ⟨wr.heap.size, 0, none⟩ 1 1 [.int .i64 (lg1 a b k)] rfl rfl ?d1 ?d2 ?d3 ?d4 ?d5 ?_))
    case d1 => exact one_cell wr _ _ (congrArg (Value.int .i64) HM.out.symm)
    case d2 => intro u hu; simp at hu; subst hu; rfl
    case d3 => unfold maxLen; omega
    case d4 => omega
    case d5 => have := hnx.size; simp; omega
    intro v' w1 hown' hgrow _
    have R := own_next hnx hown hown' hgrow; clear hown' hgrow hown; go_wp2
    go_roundw
    case rel => exact ⟨k + 1, by omega, by go_num, R.1, R.2⟩
    case measure => simp [intOf]; omega
  ·obtain rfl : k = 8 := by omega
   obtain ⟨g, cap, hv8, hcells⟩ := own8 (bl_len _ _) hown
   have hbo := byteOf_r (bl (lg1 a b) 8) g cap wr (bl_len _ _) (bl_mem _ (lg1_b a b) 8) hcells
   have hvb := val_b (bl (lg1 a b) 8) (by rw [bl_len]; omega) (bl_mem _ (lg1_b a b) 8); clear hcells hown HG; rw [hv8]; clear hv8
   go_wp2_with (first
    | (go_at_call 67; refine hbo.mono ?_; rintro e w' ⟨rfl, rfl⟩)
    | (go_at_call 45; refine (flags_r _ _ _ _ _).mono ?_; rintro e w' ⟨rfl, rfl⟩))
   go_ret2
   exact ⟨rfl, hnx⟩
theorem lg2_eq (a b : Int) (k : Nat) : lg2 a b k = (bt a k + bt b k) % 2 := rfl
theorem logic2_r (a b : Int) (h1 : 0 ≤ a) (h2 : a < 256) (h3 : 0 ≤ b) (h4 : b < 256) (w : World) :
  Calls Tryz.prog 63 #[.int .i64 2, .int .u8 a, .int .u8 b] w fun e w' => e = .returned (.tuple #[.int .u8 (val (bl (lg2 a b) 8)), .int .u8 (FL (val (bl (lg2 a b) 8) == 0) false false false)]) ∧ Below w.heap.size w w' := by
 obtain ⟨i0, hi, hz0, hz1, hz2⟩ := info_parts Tryz.info3; go_enter Tryz.func63, Tryz.ntmps63; go_wp2
 go_loopw [8, 9] (fun l i wr => ∃ k : Nat, k ≤ 8 ∧ i = .int .i64 k ∧ wr.ownsRow w.heap.size 3 1 l k (iv (bl (lg2 a b) k)) ∧ Below w.heap.size w wr)
  (fun _ i _ => 8 - (intOf i).toNat)
 case atStart => exact ⟨0, by omega, rfl, World.ownsRow_nil _ _ _ _, Below.refl _ _⟩
 case round =>
  obtain ⟨k, hk, rfl, hown, hnx⟩ := hrel; have hba := bt_b a k; have hbb := bt_b b k; have hg := lg2_b a b k; have HG := Lib.hid (lg2_eq a b k)
  by_cases hlt : k < 8
  ·go_wp2_with (first
    | (go_at_call 65; refine (bit_r _ _ (by omega) (by omega) (by omega) _).mono ?_; rintro e w' ⟨rfl, rfl⟩)
    | (at_builtin; refine wpList_append_own _ rfl _ _ 64 rfl w.heap.size 3 i0 (.int .i64 0) 1 8 Tryz.underlying64 hi hz0 hz1 hz2 rfl (by decide) _ _ _ rfl (hown.alloc _) ⟨wr.heap.size, 0, none⟩ 1 1 [.int .i64 (lg2 a b k)] rfl rfl ?c1 ?c2 ?c3 ?c4 ?c5 ?_))
   case c1 => exact one_cell wr _ _ (congrArg (Value.int .i64) HG.out.symm)
   case c2 => intro u hu; simp at hu; subst hu; rfl
   case c3 => unfold maxLen; omega
   case c4 => omega
   case c5 => have := hnx.size; simp; omega
   intro v' w1 hown' hgrow _
   have R := own_next hnx hown hown' hgrow; clear hown' hgrow hown; go_wp2
   go_roundw
   case rel => exact ⟨k + 1, by omega, by go_num, R.1, R.2⟩
   case measure => simp [intOf]; omega
  ·obtain rfl : k = 8 := by omega
   obtain ⟨g, cap, hv8, hcells⟩ := own8 (bl_len _ _) hown
   have hbo := byteOf_r (bl (lg2 a b) 8) g cap wr (bl_len _ _) (bl_mem _ (lg2_b a b) 8) hcells
   have hvb := val_b (bl (lg2 a b) 8) (by rw [bl_len]; omega) (bl_mem _ (lg2_b a b) 8); clear hcells hown HG; rw [hv8]; clear hv8
   go_wp2_with (first
    | (go_at_call 67; refine hbo.mono ?_; rintro e w' ⟨rfl, rfl⟩)
    | (go_at_call 45; refine (flags_r _ _ _ _ _).mono ?_; rintro e w' ⟨rfl, rfl⟩))
   go_ret2
   exact ⟨rfl, hnx⟩
end Go.Proofs.YtngdogldgcgnjaaGreat.Alu
namespace Go.Proofs.YtngdogldgcgnjaaGreat.Alu
open Go.ChangeShapes Go.WideShapes Go.ChangeAt Go.RowKit
set_option linter.unusedVariables false
theorem val8 (f : Nat → Int) : val (bl f 8) = f 0 + 2 * f 1 + 4 * f 2 + 8 * f 3 + 16 * f 4 + 32 * f 5 + 64 * f 6 + 128 * f 7 := by
 simp [bl, val]; omega
theorem bits8 (a : Int) (h1 : 0 ≤ a) (h2 : a < 256) : a = bt a 0 + 2 * bt a 1 + 4 * bt a 2 + 8 * bt a 3 + 16 * bt a 4 + 32 * bt a 5 + 64 * bt a 6 + 128 * bt a 7 :=
 byte_all (P := fun a => a = bt a 0 + 2 * bt a 1 + 4 * bt a 2 + 8 * bt a 3 + 16 * bt a 4 + 32 * bt a 5 + 64 * bt a 6 + 128 * bt a 7) (by decide +kernel) a h1 h2
theorem bits4 (a : Int) (h1 : 0 ≤ a) (h2 : a < 256) : a % 16 = bt a 0 + 2 * bt a 1 + 4 * bt a 2 + 8 * bt a 3 :=
 byte_all (P := fun a => a % 16 = bt a 0 + 2 * bt a 1 + 4 * bt a 2 + 8 * bt a 3) (by decide +kernel) a h1 h2
theorem adds_step (a b : Int) (c : Bool) (k : Nat) : adds a b c k = bt a k + bt b k + addc a b c k - 2 * addc a b c (k + 1) := by
 show (bt a k + bt b k + addc a b c k) % 2 = bt a k + bt b k + addc a b c k - 2 * ((bt a k + bt b k + addc a b c k) / 2); omega
theorem subs_step (a b : Int) (c : Bool) (k : Nat) : subs a b c k = bt a k - bt b k - subc a b c k + 2 * subc a b c (k + 1) := by
 show subs a b c k = bt a k - bt b k - subc a b c k + 2 * (if bt a k - bt b k - subc a b c k < 0 then 1 else 0)
 unfold subs; split <;> omega
theorem addc4 (a b : Int) (c : Bool) (h1 : 0 ≤ a) (h2 : a < 256) (h3 : 0 ≤ b) (h4 : b < 256) :
  adds a b c 0 + 2 * adds a b c 1 + 4 * adds a b c 2 + 8 * adds a b c 3 + 16 * addc a b c 4 = a % 16 + b % 16 + fl 1 c := by
 have e0 := adds_step a b c 0; have e1 := adds_step a b c 1; have e2 := adds_step a b c 2; have e3 := adds_step a b c 3; have z : addc a b c 0 = fl 1 c := rfl; rw [bits4 a h1 h2, bits4 b h3 h4, e0, e1, e2, e3, z]; simp only [Nat.reduceAdd]; omega
theorem addc8 (a b : Int) (c : Bool) (h1 : 0 ≤ a) (h2 : a < 256) (h3 : 0 ≤ b) (h4 : b < 256) :
  val (bl (adds a b c) 8) + 256 * addc a b c 8 = a + b + fl 1 c := by
 have h := addc4 a b c h1 h2 h3 h4; have e0 := adds_step a b c 4; have e1 := adds_step a b c 5; have e2 := adds_step a b c 6; have e3 := adds_step a b c 7; have za := bits8 a h1 h2; have zb := bits8 b h3 h4; rw [bits4 a h1 h2, bits4 b h3 h4] at h
 simp only [Nat.reduceAdd] at e0 e1 e2 e3
 rw [val8]; omega
theorem subc4 (a b : Int) (c : Bool) (h1 : 0 ≤ a) (h2 : a < 256) (h3 : 0 ≤ b) (h4 : b < 256) :
  subs a b c 0 + 2 * subs a b c 1 + 4 * subs a b c 2 + 8 * subs a b c 3 - 16 * subc a b c 4 = a % 16 - b % 16 - fl 1 c := by
 have e0 := subs_step a b c 0; have e1 := subs_step a b c 1; have e2 := subs_step a b c 2; have e3 := subs_step a b c 3; have z : subc a b c 0 = fl 1 c := rfl; rw [bits4 a h1 h2, bits4 b h3 h4, e0, e1, e2, e3, z]; simp only [Nat.reduceAdd]; omega
theorem subc8 (a b : Int) (c : Bool) (h1 : 0 ≤ a) (h2 : a < 256) (h3 : 0 ≤ b) (h4 : b < 256) :
  val (bl (subs a b c) 8) - 256 * subc a b c 8 = a - b - fl 1 c := by
 have h := subc4 a b c h1 h2 h3 h4; have e0 := subs_step a b c 4; have e1 := subs_step a b c 5; have e2 := subs_step a b c 6; have e3 := subs_step a b c 7; have za := bits8 a h1 h2; have zb := bits8 b h3 h4; rw [bits4 a h1 h2, bits4 b h3 h4] at h
 simp only [Nat.reduceAdd] at e0 e1 e2 e3
 rw [val8]; omega
theorem add_bits (a b : Int) (c : Bool) (h1 : 0 ≤ a) (h2 : a < 256) (h3 : 0 ≤ b) (h4 : b < 256) :
  val (bl (adds a b c) 8) = addR a b c ∧ FL (val (bl (adds a b c) 8) == 0) false (addc a b c 4 == 1) (addc a b c 8 == 1) = addF a b c := by
 have e8 := addc8 a b c h1 h2 h3 h4; have e4 := addc4 a b c h1 h2 h3 h4; have c4 := addc_b a b c 4; have c8 := addc_b a b c 8; have v := val_b (bl (adds a b c) 8) (by rw [bl_len]; omega) (bl_mem _ (adds_b a b c) 8); have s0 := adds_b a b c 0; have s1 := adds_b a b c 1; have s2 := adds_b a b c 2; have s3 := adds_b a b c 3
 have er : val (bl (adds a b c) 8) = addR a b c := by unfold addR; omega
 refine ⟨er, ?_⟩
 rw [er]; unfold addF
 congr 1
 ·rw [Bool.eq_iff_iff]; simp; omega
 ·rw [Bool.eq_iff_iff]; simp; omega
theorem sub_bits (a b : Int) (c : Bool) (h1 : 0 ≤ a) (h2 : a < 256) (h3 : 0 ≤ b) (h4 : b < 256) :
  val (bl (subs a b c) 8) = subR a b c ∧ FL (val (bl (subs a b c) 8) == 0) true (subc a b c 4 == 1) (subc a b c 8 == 1) = subF a b c := by
 have e8 := subc8 a b c h1 h2 h3 h4; have e4 := subc4 a b c h1 h2 h3 h4; have c4 := subc_b a b c 4; have c8 := subc_b a b c 8; have v := val_b (bl (subs a b c) 8) (by rw [bl_len]; omega) (bl_mem _ (subs_b a b c) 8); have s0 := subs_b a b c 0; have s1 := subs_b a b c 1; have s2 := subs_b a b c 2; have s3 := subs_b a b c 3
 have er : val (bl (subs a b c) 8) = subR a b c := by unfold subR; omega
 refine ⟨er, ?_⟩
 rw [er]; unfold subF
 congr 1
 ·rw [Bool.eq_iff_iff]; simp; omega
 ·rw [Bool.eq_iff_iff]; simp; omega
/-! ### And, or, xor -/
theorem sh_nat (x k : Nat) : sh (x : Int) k = ((x / 2 ^ k : Nat) : Int) := by
 induction k with
 | zero => simp [sh]
 | succ k ih => show sh x k / 2 = _; rw [ih, Nat.pow_succ, ← Nat.div_div_eq_div_mul]; omega
theorem bt_nat (x k : Nat) : bt (x : Int) k = if x.testBit k then 1 else 0 := by
 unfold bt; rw [sh_nat, Nat.testBit_eq_decide_div_mod_eq]
 generalize x / 2 ^ k = y
 simp only [decide_eq_true_eq]; split <;> omega
theorem and_bits (a b : Int) (h1 : 0 ≤ a) (h2 : a < 256) (h3 : 0 ≤ b) (h4 : b < 256) : val (bl (lg0 a b) 8) = bits .and .u8 a b := by
 rw [u8_and a b h1 h2 h3 h4]; have hb : a.toNat &&& b.toNat < 256 := Nat.lt_of_le_of_lt Nat.and_le_left (by omega); rw [bits8 ((a.toNat &&& b.toNat : Nat) : Int) (by omega) (by omega), val8]
 have e : ∀ k, lg0 a b k = bt ((a.toNat &&& b.toNat : Nat) : Int) k := by
  intro k
  rw [bt_nat, Nat.testBit_and]
  unfold lg0
  rw [show bt a k = bt ((a.toNat : Nat) : Int) k by rw [Int.toNat_of_nonneg h1], show bt b k = bt ((b.toNat : Nat) : Int) k by rw [Int.toNat_of_nonneg h3], bt_nat, bt_nat]
  cases a.toNat.testBit k <;> cases b.toNat.testBit k <;> rfl
 simp only [e]
theorem or_bits (a b : Int) (h1 : 0 ≤ a) (h2 : a < 256) (h3 : 0 ≤ b) (h4 : b < 256) : val (bl (lg1 a b) 8) = bits .or .u8 a b := by
 rw [u8_or a b h1 h2 h3 h4]; have hb : a.toNat ||| b.toNat < 2 ^ 8 := Nat.or_lt_two_pow (by omega) (by omega); rw [bits8 ((a.toNat ||| b.toNat : Nat) : Int) (by omega) (by omega), val8]
 have e : ∀ k, lg1 a b k = bt ((a.toNat ||| b.toNat : Nat) : Int) k := by
  intro k
  rw [bt_nat, Nat.testBit_or]
  unfold lg1
  rw [show bt a k = bt ((a.toNat : Nat) : Int) k by rw [Int.toNat_of_nonneg h1], show bt b k = bt ((b.toNat : Nat) : Int) k by rw [Int.toNat_of_nonneg h3], bt_nat, bt_nat]
  cases a.toNat.testBit k <;> cases b.toNat.testBit k <;> rfl
 simp only [e]
theorem xor_bits (a b : Int) (h1 : 0 ≤ a) (h2 : a < 256) (h3 : 0 ≤ b) (h4 : b < 256) : val (bl (lg2 a b) 8) = bits .xor .u8 a b := by
 rw [u8_xor a b h1 h2 h3 h4]; have hb : a.toNat ^^^ b.toNat < 2 ^ 8 := Nat.xor_lt_two_pow (by omega) (by omega); rw [bits8 ((a.toNat ^^^ b.toNat : Nat) : Int) (by omega) (by omega), val8]
 have e : ∀ k, lg2 a b k = bt ((a.toNat ^^^ b.toNat : Nat) : Int) k := by
  intro k
  rw [bt_nat, Nat.testBit_xor]
  unfold lg2
  rw [show bt a k = bt ((a.toNat : Nat) : Int) k by rw [Int.toNat_of_nonneg h1], show bt b k = bt ((b.toNat : Nat) : Int) k by rw [Int.toNat_of_nonneg h3], bt_nat, bt_nat]
  cases a.toNat.testBit k <;> cases b.toNat.testBit k <;> rfl
 simp only [e]
/-! ### The contracts, told in numbers -/
theorem add_r' (a b : Int) (c : Bool) (h1 : 0 ≤ a) (h2 : a < 256) (h3 : 0 ≤ b) (h4 : b < 256) (w : World) :
  Calls Tryz.prog 61 #[.int .u8 a, .int .u8 b, .bool c] w fun e w' => e = .returned (.tuple #[.int .u8 (addR a b c), .int .u8 (addF a b c)]) ∧ Below w.heap.size w w' := by
 have e := add_bits a b c h1 h2 h3 h4; rw [← e.1, ← e.2]; exact add_r a b c h1 h2 h3 h4 w
theorem sub_r' (a b : Int) (c : Bool) (h1 : 0 ≤ a) (h2 : a < 256) (h3 : 0 ≤ b) (h4 : b < 256) (w : World) :
  Calls Tryz.prog 62 #[.int .u8 a, .int .u8 b, .bool c] w fun e w' => e = .returned (.tuple #[.int .u8 (subR a b c), .int .u8 (subF a b c)]) ∧ Below w.heap.size w w' := by
 have e := sub_bits a b c h1 h2 h3 h4; rw [← e.1, ← e.2]; exact sub_r a b c h1 h2 h3 h4 w
theorem and_r (a b : Int) (h1 : 0 ≤ a) (h2 : a < 256) (h3 : 0 ≤ b) (h4 : b < 256) (w : World) :
  Calls Tryz.prog 63 #[.int .i64 0, .int .u8 a, .int .u8 b] w fun e w' => e = .returned (.tuple #[.int .u8 (bits .and .u8 a b), .int .u8 (FL (bits .and .u8 a b == 0) false true false)]) ∧ Below w.heap.size w w' := by
 rw [← and_bits a b h1 h2 h3 h4]; exact logic0_r a b h1 h2 h3 h4 w
theorem or_r (a b : Int) (h1 : 0 ≤ a) (h2 : a < 256) (h3 : 0 ≤ b) (h4 : b < 256) (w : World) :
  Calls Tryz.prog 63 #[.int .i64 1, .int .u8 a, .int .u8 b] w fun e w' => e = .returned (.tuple #[.int .u8 (bits .or .u8 a b), .int .u8 (FL (bits .or .u8 a b == 0) false false false)]) ∧ Below w.heap.size w w' := by
 rw [← or_bits a b h1 h2 h3 h4]; exact logic1_r a b h1 h2 h3 h4 w
theorem xor_r (a b : Int) (h1 : 0 ≤ a) (h2 : a < 256) (h3 : 0 ≤ b) (h4 : b < 256) (w : World) :
  Calls Tryz.prog 63 #[.int .i64 2, .int .u8 a, .int .u8 b] w fun e w' => e = .returned (.tuple #[.int .u8 (bits .xor .u8 a b), .int .u8 (FL (bits .xor .u8 a b == 0) false false false)]) ∧ Below w.heap.size w w' := by
 rw [← xor_bits a b h1 h2 h3 h4]; exact logic2_r a b h1 h2 h3 h4 w
end Go.Proofs.YtngdogldgcgnjaaGreat.Alu
namespace Go.Proofs.YtngdogldgcgnjaaGreat.Alu
open Go.ChangeShapes Go.WideShapes Go.ChangeAt Go.RowKit
set_option linter.unusedVariables false
theorem i64_bd {a : Int} (h : (Lit.int .i64 a).wf = true) : -9223372036854775808 ≤ a ∧ a < 9223372036854775808 := by
 simp [Lit.wf, IntKind.min, IntKind.max, IntKind.bits, IntKind.signed] at h; omega
theorem kmod (k : Int) : (wrap64 (k.tmod 8 + 8)).tmod 8 = k % 8 := by
 have h : k.tmod 8 = if 0 ≤ k then k % 8 else -((-k) % 8) := by
  split
  ·exact Int.tmod_eq_emod_of_nonneg (by assumption)
  ·have e : k = -(-k) := by omega
   rw [e, Int.neg_tmod, Int.tmod_eq_emod_of_nonneg (by omega)]; simp
 have b : -8 < k.tmod 8 ∧ k.tmod 8 < 8 := by rw [h]; split <;> omega
 have e : wrap64 (k.tmod 8 + 8) = k.tmod 8 + 8 := by unfold wrap64; omega
 rw [e, Int.tmod_eq_emod_of_nonneg (by omega), h]
 split <;> omega
theorem bt_div (a : Int) (k : Nat) : bt a k = a / 2 ^ k % 2 := by
 have : ∀ k : Nat, sh a k = a / 2 ^ k := by
  intro k
  induction k with
  | zero => simp [sh]
  | succ k ih => show sh a k / 2 = _; rw [ih, Int.pow_succ, Int.ediv_ediv_of_nonneg (Int.le_of_lt (Int.pow_pos (by decide)))]
 unfold bt; rw [this]
theorem bitK_r (k a f : Int) (h1 : 0 ≤ a) (h2 : a < 256) (h3 : 0 ≤ f) (h4 : f < 256) (w : World) :
  Calls Tryz.prog 50 #[.int .i64 k, .int .u8 a, .int .u8 f] w fun e w' => e = .returned (.int .u8 (bitF k a f)) ∧ w = w' := by
 have hk := kmod k
 obtain ⟨n, hn⟩ : ∃ n : Nat, k % 8 = n := ⟨(k % 8).toNat, by omega⟩
 have hn8 : n < 8 := by omega
 have hb : Hid (bitF k a f = FL (bt a n == 0) false true (cf f)) := by
  show bitF k a f = _
  unfold bitF; rw [bt_div, hn]; rfl
 rw [hn] at hk; clear hn; go_enter Tryz.func50, Tryz.ntmps50
 go_wp2_with (first
  | (go_at_call 65; refine (bit_r _ _ (by omega) (by omega) (by omega) _).mono ?_; rintro e w' ⟨rfl, rfl⟩)
  | (go_at_call 34; refine (c_r _ (by omega) (by omega) _).mono ?_; rintro e w' ⟨rfl, rfl⟩)
  | (go_at_call 45; refine (flags_r _ _ _ _ _).mono ?_; rintro e w' ⟨rfl, rfl⟩))
 go_ret
 exact ⟨ret1 (by rw [hb.out]), rfl⟩
theorem hfFL (z n h c : Bool) : hf (FL z n h c) = h := by cases z <;> cases n <;> cases h <;> cases c <;> kernel_rfl
theorem inc_h (a : Int) : hf (addF a 1 false) = (a % 16 == 15) := by
 unfold addF; rw [hfFL, Bool.eq_iff_iff]; simp [fl]; omega
theorem dec_h (a : Int) : hf (subF a 1 false) = (a % 16 == 0) := by
 unfold subF; rw [hfFL, Bool.eq_iff_iff]; simp [fl]; omega
theorem inc_r (a f : Int) (h1 : 0 ≤ a) (h2 : a < 256) (h3 : 0 ≤ f) (h4 : f < 256) (w : World) :
  Calls Tryz.prog 40 #[.int .u8 a, .int .u8 f] w fun e w' => e = .returned (.tuple #[.int .u8 ((a + 1) % 256), .int .u8 (incF a f)]) ∧ Below w.heap.size w w' := by
 have e1 : addR a 1 false = (a + 1) % 256 := by unfold addR fl; simp
 have e2 := Lib.hid (inc_h a); have e3 := addF_bd a 1 false; go_enter Tryz.func40, Tryz.ntmps40
 go_wp2_with (first
  | (go_at_call 61; refine (add_r' _ _ _ (by omega) (by omega) (by omega) (by omega) _).mono ?_; rintro e w' ⟨rfl, hb⟩; have HB := Lib.hid hb; clear hb)
  | (go_at_call 64; refine (h_r _ (by omega) (by omega) _).mono ?_; rintro e w' ⟨rfl, rfl⟩)
  | (go_at_call 34; refine (c_r _ (by omega) (by omega) _).mono ?_; rintro e w' ⟨rfl, rfl⟩)
  | (go_at_call 45; refine (flags_r _ _ _ _ _).mono ?_; rintro e w' ⟨rfl, rfl⟩))
 go_ret2
 exact ⟨ret2 rfl (by rw [e2.out]; rfl), HB.out⟩
theorem dec_r (a f : Int) (h1 : 0 ≤ a) (h2 : a < 256) (h3 : 0 ≤ f) (h4 : f < 256) (w : World) :
  Calls Tryz.prog 41 #[.int .u8 a, .int .u8 f] w fun e w' => e = .returned (.tuple #[.int .u8 ((a - 1) % 256), .int .u8 (decF a f)]) ∧ Below w.heap.size w w' := by
 have e1 : subR a 1 false = (a - 1) % 256 := by unfold subR fl; simp
 have e2 := Lib.hid (dec_h a); have e3 := subF_bd a 1 false; go_enter Tryz.func41, Tryz.ntmps41
 go_wp2_with (first
  | (go_at_call 62; refine (sub_r' _ _ _ (by omega) (by omega) (by omega) (by omega) _).mono ?_; rintro e w' ⟨rfl, hb⟩; have HB := Lib.hid hb; clear hb)
  | (go_at_call 64; refine (h_r _ (by omega) (by omega) _).mono ?_; rintro e w' ⟨rfl, rfl⟩)
  | (go_at_call 34; refine (c_r _ (by omega) (by omega) _).mono ?_; rintro e w' ⟨rfl, rfl⟩)
  | (go_at_call 45; refine (flags_r _ _ _ _ _).mono ?_; rintro e w' ⟨rfl, rfl⟩))
 go_ret2
 exact ⟨ret2 rfl (by rw [e2.out]; rfl), HB.out⟩
end Go.Proofs.YtngdogldgcgnjaaGreat.Alu
