/-
  A plan's keys, of the document: for every plan that lies in memory; no other condition but that each number fits.
-/
import Derived.Test.YtbpfeppgonhclaaBase
import Derived.Test.YtbpfeppgonhclaaPln
import Derived.Deep.Cut
import Derived.BigQuiet
import Derived.Deep.QuietTactic
import Derived.Deep.LoopGhost
namespace Go.Proofs.Ytbpfeppgonhclaa
open Go.ChangeShapes Go.WideShapes Go.ChangeAt Go.RowKit
set_option linter.unusedVariables false
set_option linter.unusedSimpArgs false
set_option maxRecDepth 100000
theorem bst_cases (f : Nat → Int) (x : Int) (k : Nat) : bst f x k = -1 ∨ ∃ b : Nat, b < k ∧ bst f x k = (b : Int) := by
  have h := bst_lt f x k
  by_cases e : bst f x k < 0
  · exact Or.inl (by omega)
  · exact Or.inr ⟨(bst f x k).toNat, by omega, by omega⟩
theorem below_drewN' {n : Nat} {W0 W : World} (h : Below n W0 W) (k : Nat) : Below n W0 (W.drewN k) := below_drewN h k
set_option maxHeartbeats 4000000 in
theorem rat_c (a : Option Addr) (n c : Nat) (hn63 : n ≤ 9223372036854775807) (f g : Nat → Int) (hf : ∀ i, 0 ≤ f i ∧ f i < 18446744073709551616) (hg : ∀ i, 0 ≤ g i ∧ g i < 256) (x : Int) (hx : 0 ≤ x) (hx2 : x < 18446744073709551616) (w : World) (hmem : (0 < n → ∃ qb qo, a = some ⟨qb, qo, none⟩ ∧ qb < w.heap.size ∧ ∀ j, j < n → w.cell? ⟨qb, qo + j * 2, none⟩ = some (.int .u64 (f j)) ∧ w.cell? ⟨qb, qo + j * 2 + 1, none⟩ = some (.int .u8 (g j)))) : Calls Try.prog 17 #[.slice a n c, .int .u64 x] w fun q_ w' => q_ = .returned (.int .u8 (atD f g x n)) ∧ Below w.heap.size w w' := by
  suffices hall : ∀ (n_ : Nat) (W0 : World), n_ ≤ W0.heap.size → Below n_ W0 w → (0 < n → ∃ qb qo, a = some ⟨qb, qo, none⟩ ∧ qb < n_ ∧ ∀ j, j < n → W0.cell? ⟨qb, qo + j * 2, none⟩ = some (.int .u64 (f j)) ∧ W0.cell? ⟨qb, qo + j * 2 + 1, none⟩ = some (.int .u8 (g j))) → Calls Try.prog 17 #[.slice a n c, .int .u64 x] w fun q_ w' => q_ = .returned (.int .u8 (atD f g x n)) ∧ Below n_ W0 w' from hall _ _ (Nat.le_refl _) (Below.refl _ _) hmem
  intro n_ W0 hn hB hI
  have HN := Lib.hid hn
  have BB := Lib.hid hB
  have HIN := Lib.hid hI
  have HF := Lib.hid hf
  have HG := Lib.hid hg
  clear hn hB hI hmem hf hg
  go_enter Try.func17, Try.ntmps17
  go_wp2
  go_loopg [5, 9] n (fun g' y i wr => ∃ (t : Nat), t ≤ n ∧ g' + t = n ∧ i = .int .i64 t ∧ y = .int .i64 (bst f x t) ∧ Below n_ W0 wr)
  case atStart => exact ⟨0, by omega, by omega, rfl, rfl, BB.out⟩
  case round =>
    obtain ⟨t, ht, hg, rfl, rfl, hB⟩ := hrel
    have TG := Lib.hid hg
    have B0 := Lib.hid hB
    clear hg hB
    by_cases hlt : t < n
    · have l1 : (t : Int) < n := by omega
      have l0 : (0 : Int) ≤ t := by omega
      obtain ⟨qb, qo, rfl, hqb, hcells⟩ := HIN.out (by omega)
      have QQ := Lib.hid hqb
      have E0 := Lib.hid (hcells t hlt).1
      have E1 := Lib.hid (hcells t hlt).2
      have fb := HF.out t
      have gb := HG.out t
      have hcells2 := Lib.hid hcells
      clear hcells hqb
      have e0 := (B0.out.cell (p := ⟨qb, qo + t * 2, none⟩) QQ.out).trans E0.out
      rcases bst_cases f x t with hb | ⟨b, hbt, hb⟩
      · by_cases c2 : f t ≤ x
        · have Y := Lib.hid (bst_yes (f := f) (x := x) (k := t) c2 (Or.inl (by omega)))
          rw [hb]
          clear hb
          generalize f t = F at e0 fb c2
          go_upto_region 5 with (fail)
          go_quiet (fail)
          go_wp2
          go_roundg (gk - 1)
          · exact ⟨t + 1, by omega, by have := TG.out; omega, by simp, by rw [Y.out], below_drewN B0.out _⟩
          case measure => have := TG.out; omega
        · have Y := Lib.hid (bst_no1 (f := f) (x := x) (k := t) c2)
          rw [hb]
          rw [hb] at Y
          clear hb
          generalize f t = F at e0 fb c2
          go_upto_region 5 with (fail)
          go_quiet (fail)
          go_wp2
          go_roundg (gk - 1)
          · exact ⟨t + 1, by omega, by have := TG.out; omega, by simp, by rw [Y.out], below_drewN B0.out _⟩
          case measure => have := TG.out; omega
      · have e2 := (B0.out.cell (p := ⟨qb, qo + b * 2, none⟩) QQ.out).trans (hcells2.out b (by omega)).1
        have hb0 : (0 : Int) ≤ b := by omega
        have hbn : (b : Int) < n := by omega
        by_cases c2 : f t ≤ x
        · by_cases c3 : f b ≤ f t
          · have Y := Lib.hid (bst_yes (f := f) (x := x) (k := t) c2 (Or.inr (by rw [hb, Int.toNat_natCast]; exact c3)))
            rw [hb]
            clear hb
            have fbb := HF.out b
            generalize f t = F at e0 fb c2 c3
            generalize f b = F2 at e2 fbb c3
            go_upto_region 5 with (fail)
            go_quiet (fail)
            go_wp2
            go_roundg (gk - 1)
            · exact ⟨t + 1, by omega, by have := TG.out; omega, by simp, by rw [Y.out], below_drewN B0.out _⟩
            case measure => have := TG.out; omega
          · have Y := Lib.hid (bst_no2 (f := f) (x := x) (k := t) (by omega) (by rw [hb, Int.toNat_natCast]; exact c3))
            rw [hb]
            rw [hb] at Y
            clear hb
            have fbb := HF.out b
            generalize f t = F at e0 fb c2 c3
            generalize f b = F2 at e2 fbb c3
            go_upto_region 5 with (fail)
            go_quiet (fail)
            go_wp2
            go_roundg (gk - 1)
            · exact ⟨t + 1, by omega, by have := TG.out; omega, by simp, by rw [Y.out], below_drewN B0.out _⟩
            case measure => have := TG.out; omega
        · have Y := Lib.hid (bst_no1 (f := f) (x := x) (k := t) c2)
          rw [hb]
          rw [hb] at Y
          clear hb
          generalize f t = F at e0 fb c2
          go_upto_region 5 with (fail)
          go_quiet (fail)
          go_wp2
          go_roundg (gk - 1)
          · exact ⟨t + 1, by omega, by have := TG.out; omega, by simp, by rw [Y.out], below_drewN B0.out _⟩
          case measure => have := TG.out; omega
    · have et : t = n := by omega
      subst et
      rcases bst_cases f x t with hb | ⟨b, hbt, hb⟩
      · have Z := Lib.hid (show atD f g x t = 0 by unfold atD; rw [hb]; rfl)
        rw [hb]
        clear hb
        go_wp2
        go_ret
        exact ⟨by rw [Z.out]; rfl, B0.out⟩
      · have Z := Lib.hid (show atD f g x t = g b by unfold atD; rw [hb, if_neg (by omega), Int.toNat_natCast])
        rw [hb]
        clear hb
        have hb0 : (0 : Int) ≤ b := by omega
        have hbn : (b : Int) < t := by omega
        obtain ⟨qb, qo, rfl, hqb, hcells⟩ := HIN.out (by omega)
        have e2 := (B0.out.cell (p := ⟨qb, qo + b * 2 + 1, none⟩) hqb).trans (hcells b hbt).2
        clear hcells hqb
        generalize g b = G at e2 Z
        go_wp2
        go_ret
        exact ⟨by rw [Z.out]; rfl, B0.out⟩
end Go.Proofs.Ytbpfeppgonhclaa
