/-
  What strconv.FormatUint returns with base 16, for numbers of few digits: for every world in which the table of package math/bits is as its text lays it.
-/
import Derived.Test.YtaggebfcfebomaaDoorBase
import Derived.Deep.LoopGhost
import Derived.Laws.IdiomStrings
namespace Go.Proofs.YtaggebfcfebomaaDoor
open Go.ChangeShapes Go.WideShapes Go.ChangeAt Go.RowKit
set_option linter.unusedVariables false

/-- The table of math/bits has 4 at the place of 16. -/
def Tz (w : World) : Prop := w.cell? ⟨3, 15, none⟩ = some (.int .u8 4)
theorem Tz.lt {w : World} (h : Tz w) : 3 < w.heap.size := World.block_lt_of_cell? _ _ h
theorem Tz.below {w w' : World} (h : Tz w) (hb : Below w.heap.size w w') : Tz w' := (hb.cell (p := ⟨3, 15, none⟩) h.lt).trans h
theorem tz64_c (w : World) (h : Tz w) : Calls Tryd.prog 107 #[.int .u64 16] w fun e w' => e = .returned (.int .i64 4) ∧ w = w' := by
  unfold Tz at h
  have e1 : IntKind.u64.wrap (-16) = 18446744073709551600 := by decide +kernel
  have e2 : bits .and .u64 16 18446744073709551600 = 16 := by decide +kernel
  have e3 : IntKind.u64.wrap 4573923408821661840 = 4573923408821661840 := by decide +kernel
  go_enter Tryd.func107, Tryd.ntmps107
  go_wp2
  go_ret
  exact ⟨rfl, rfl⟩
theorem tz_c (w : World) (h : Tz w) : Calls Tryd.prog 105 #[.int .u64 16] w fun e w' => e = .returned (.int .i64 4) ∧ w = w' := by
  go_enter Tryd.func105, Tryd.ntmps105
  go_wp2_with (go_at_call 107; (with_reducible refine (tz64_c _ h).mono ?_); rintro e w' ⟨rfl, rfl⟩)
  go_ret
  exact ⟨rfl, rfl⟩
theorem pow_c (w : World) : Calls Tryd.prog 104 #[.int .i64 16] w fun e w' => e = .returned (.bool true) ∧ w = w' := by
  have e2 : bits .and .i64 16 15 = 0 := by decide +kernel
  go_enter Tryd.func104, Tryd.ntmps104
  go_wp2
  go_ret
  exact ⟨rfl, rfl⟩
/-- A digit. -/
def hexb (v : Nat) : UInt8 := if v < 10 then UInt8.ofNat (48 + v) else UInt8.ofNat (87 + v)
/-- The lower digits of u, the highest one first. -/
def sh (u j : Nat) : Nat := u / 16 ^ j
def hexs (u : Nat) : Nat → List UInt8
  | 0 => []
  | j + 1 => hexb (sh u j % 16) :: hexs u j
theorem hexs_len (u : Nat) : ∀ j, (hexs u j).length = j
  | 0 => rfl
  | j + 1 => by simp [hexs, hexs_len u j]
theorem sh_succ (u j : Nat) : sh u (j + 1) = sh u j / 16 := by unfold sh; rw [Nat.pow_succ, Nat.div_div_eq_div_mul]
/-- The block c is an array of 65 bytes, of which the last ones are L. -/
structure Buf (w : World) (c : Nat) (L : List UInt8) : Prop where
  lt : c < w.heap.size
  some : ∀ o, o < 65 → (w.cell? ⟨c, o, none⟩).isSome = true
  free : ∀ o, w.frozen? ⟨c, o, none⟩ = false
  cells : ∀ j (hj : j < L.length), w.cell? ⟨c, 65 - L.length + j, none⟩ = .some (.int .u8 (L[j].toNat : Int))
theorem Buf.push {w : World} {c : Nat} {L : List UInt8} (h : Buf w c L) (hl : L.length < 65) (d : UInt8) (o : Nat) (ho : o + 1 + L.length = 65) : Buf (w.setCell ⟨c, o, none⟩ (.int .u8 (d.toNat : Int))) c (d :: L) := by
  obtain ⟨u, hu⟩ := Option.isSome_iff_exists.1 (h.some o (by omega))
  have hoth : ∀ x, x ≠ o → (w.setCell ⟨c, o, none⟩ (.int .u8 (d.toNat : Int))).cell? ⟨c, x, none⟩ = w.cell? ⟨c, x, none⟩ := fun x hn => World.cell?_setCell_other _ _ _ _ (fun e => hn (by injection e with _ e; exact e.symm))
  refine ⟨by simpa using h.lt, fun x hx => ?_, fun x => by simpa [go_sem] using h.free x, fun j hj => ?_⟩
  · by_cases e : x = o
    · subst e; rw [World.cell?_setCell_same w _ _ hu]; rfl
    · rw [hoth x e]; exact h.some x hx
  · cases j with
    | zero =>
      have e : 65 - (d :: L).length + 0 = o := by simp; omega
      rw [e, World.cell?_setCell_same w _ _ hu]
      rfl
    | succ j =>
      have e : 65 - (d :: L).length + (j + 1) = 65 - L.length + j := by simp at hj ⊢; omega
      rw [e, hoth _ (by simp at hj; omega)]
      exact h.cells j (by simpa using hj)
theorem dg16 : ∀ v : Fin 16, (⟨#[48, 49, 50, 51, 52, 53, 54, 55, 56, 57, 97, 98, 99, 100, 101, 102, 103, 104, 105, 106, 107, 108, 109, 110, 111, 112, 113, 114, 115, 116, 117, 118, 119, 120, 121, 122]⟩ : ByteArray)[v.val]'(Nat.lt_of_lt_of_le v.isLt (by decide)) = hexb v.val := by decide +kernel
theorem dgb (v : Nat) (h : v < 16) (h' : v < (⟨#[48, 49, 50, 51, 52, 53, 54, 55, 56, 57, 97, 98, 99, 100, 101, 102, 103, 104, 105, 106, 107, 108, 109, 110, 111, 112, 113, 114, 115, 116, 117, 118, 119, 120, 121, 122]⟩ : ByteArray).size) :
    (⟨#[48, 49, 50, 51, 52, 53, 54, 55, 56, 57, 97, 98, 99, 100, 101, 102, 103, 104, 105, 106, 107, 108, 109, 110, 111, 112, 113, 114, 115, 116, 117, 118, 119, 120, 121, 122]⟩ : ByteArray)[v]'h' = hexb v := dg16 ⟨v, h⟩
theorem and15 (v : Nat) (h : v < 1048576) : bits .and .u64 (v : Int) 15 = ((v % 16 : Nat) : Int) := by
  rw [u64_and _ _ (by omega) (by omega) (by omega) (by omega)]
  have e : ((v : Int).toNat &&& (15 : Int).toNat) = v % 16 := Nat.and_two_pow_sub_one_eq_mod v 4
  rw [e]

theorem conv_c (l : List UInt8) (c o n : Nat) (w : World) (hl : l.length = n) (ho : o + n = 65) (h : Buf w c l) : (convert 37 9 (.slice (some ⟨c, o, none⟩) n n)).run Tryd.prog w = .ok (.string ⟨l.toArray⟩) w := by
  subst hl
  refine run_convert_bytes_back (P := Tryd.prog) w 37 9 5 ⟨c, o, none⟩ l.length l Tryd.underlying37 Tryd.underlying5 Tryd.underlying9 (fun j hj => ?_)
  have hadd : (⟨c, o, none⟩ : Addr).add j = ⟨c, o + j, none⟩ := by unfold Addr.add; split <;> simp_all
  rw [hadd]
  have := h.cells j hj
  rwa [show 65 - l.length + j = o + j by omega] at this
theorem al120 : Tryd.prog.arrayLen 120 = 65 := by kernel_rfl
theorem el120 : Tryd.prog.elem 120 = 5 := by kernel_rfl
theorem slice_c (c j : Nat) (hj : j < 65) (w : World) : (Instr.sliceAt 120 (.pointer (some ⟨c, 0, none⟩)) (some (.int .i64 (65 - (j : Int) - 1))) none none).run Tryd.prog w = .ok (.slice (some ⟨c, 65 - j - 1, none⟩) (j + 1) (j + 1)) w := by
  have ht : Tryd.prog.underlying 120 = some (.array (Tryd.prog.arrayLen 120) (Tryd.prog.elem 120)) := by rw [al120, el120]; exact Tryd.underlying120
  rw [run_sliceAt_array_l w 120 ⟨c, 0, none⟩ ht .i64 _ (by omega) (by rw [al120]; omega), al120, el120]
  have e1 : (65 - (j : Int) - 1).toNat = 65 - j - 1 := by omega
  have e2 : ¬ 65 = 65 - j - 1 := by omega
  have e3 : 65 - (65 - j - 1) = j + 1 := by omega
  have hadd : (⟨c, 0, none⟩ : Addr).add (65 - j - 1) = ⟨c, 0 + (65 - j - 1), none⟩ := by unfold Addr.add; split <;> simp_all
  rw [e1]
  have hs : (sizeOf 5).run Tryd.prog w = .ok 1 w := by kernel_rfl
  rw [hs]
  simp only [Result.andThen_ok, slicedAt, if_neg e2, Nat.mul_one, hadd, e3, Nat.zero_add]
set_option maxRecDepth 100000 in
set_option maxHeartbeats 2000000 in
theorem fmt_c (u k : Nat) (hk : k ≤ 5) (hu : u < 1048576) (hbig : ∀ j, j < k → 16 ≤ sh u j) (hsm : sh u k < 16) (w : World) (h : Tz w) : Calls Tryd.prog 93 #[.slice none 0 0, .int .u64 u, .int .i64 16, .bool false, .bool false] w fun e w' => e = .returned (.tuple #[.slice none 0 0, .string ⟨(hexs u (k + 1)).toArray⟩]) ∧ Below w.heap.size w w' := by
  have H := Lib.hid (Tz.below h (own1 w (.cells Tryd.zeroCells120 120)))
  have HB := Lib.hid hbig
  have B0 : Buf (w.alloc (.cells Tryd.zeroCells120 120)) w.heap.size [] := by
    have h := Has.new w Tryd.zeroCells120 120
    refine ⟨h.1, fun o ho => ?_, h.2.2, fun j hj => absurd hj (by simp)⟩
    rw [h.2.1 o, Array.getElem?_eq_getElem (by rw [show Tryd.zeroCells120.size = 65 from by kernel_rfl]; exact ho)]
    rfl
  have HB0 := Lib.hid B0
  clear h hbig B0
  go_enter Tryd.func93, Tryd.ntmps93
  go_wp2_with (first | (go_at_call 104; (with_reducible refine (pow_c _).mono ?_); rintro e w' ⟨rfl, rfl⟩) | (go_at_call 105; (with_reducible refine (tz_c _ H.out).mono ?_); rintro e w' ⟨rfl, rfl⟩))
  go_loopg [1, 13] k (fun g s1 s13 wr => ∃ j : Nat, j ≤ k ∧ g = k - j ∧ s1 = .int .u64 (sh u j : Nat) ∧ s13 = .int .i64 (65 - (j : Int)) ∧ Buf wr w.heap.size (hexs u j) ∧ Below w.heap.size w wr)
  case atStart => exact ⟨0, by omega, rfl, by simp [sh], rfl, HB0.out, own1 _ _⟩
  case round =>
    obtain ⟨j, hj, rfl, rfl, rfl, hB, hw⟩ := hrel
    have B1 := Lib.hid hB
    have W1 := Lib.hid hw
    clear hB hw
    have hs : sh u j < 1048576 := Nat.lt_of_le_of_lt (Nat.div_le_self _ _) hu
    have ha := and15 (sh u j) hs
    have hf := B1.out.free
    obtain ⟨x0, g0⟩ := Option.isSome_iff_exists.1 (B1.out.some (65 - j - 1) (by omega))
    by_cases hlt : j < k
    · have h16 := HB.out j hlt
      go_wp2
      go_roundg (k - (j + 1))
      case measure => omega
      case rel =>
        refine ⟨j + 1, by omega, rfl, by rw [sh_succ]; go_num, by go_num, ?_, W1.out.setCell (Nat.le_refl _) _⟩
        rw [dgb (sh u j % 16) (Nat.mod_lt _ (by decide)) _]
        exact B1.out.push (by rw [hexs_len]; omega) _ _ (by rw [hexs_len]; omega)
    · obtain rfl : j = k := by omega
      have n16 : decide (16 ≤ sh u j) = false := by simp; omega
      have h36 : sh u j < 36 := by omega
      have hp := B1.out.push (by rw [hexs_len]; omega) (hexb (sh u j)) (65 - j - 1) (by rw [hexs_len]; omega)
      have hm : sh u j % 16 = sh u j := Nat.mod_eq_of_lt hsm
      have hx : hexb (sh u j) :: hexs u j = hexs u (j + 1) := by rw [hexs, hm]
      rw [hx] at hp
      have hb := (dgb (sh u j) hsm h36).symm
      rw [hb] at hp
      have hcv := conv_c (hexs u (j + 1)) w.heap.size (65 - j - 1) (j + 1) _ (hexs_len _ _) (by omega) hp
      have hsl := slice_c w.heap.size j (by omega)
      have W2 := Lib.hid (W1.out.setCell (p := ⟨w.heap.size, 65 - j - 1, none⟩) (Nat.le_refl _) (.int .u8 (((⟨#[48, 49, 50, 51, 52, 53, 54, 55, 56, 57, 97, 98, 99, 100, 101, 102, 103, 104, 105, 106, 107, 108, 109, 110, 111, 112, 113, 114, 115, 116, 117, 118, 119, 120, 121, 122]⟩ : ByteArray)[sh u j]'h36).toNat : Int)))
      clear hp hm hx hb B1 W1 HB
      go_wp2
      go_ret2
      exact ⟨rfl, W2.out⟩
end Go.Proofs.YtaggebfcfebomaaDoor
