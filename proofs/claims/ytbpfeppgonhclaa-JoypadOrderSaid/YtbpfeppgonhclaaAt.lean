/-
  A plan's keys, of the program: for every plan that lies in memory; no other condition but that each number fits.
-/
import Derived.Test.YtbpfeppgonhclaaBase
import Derived.Test.YtbpfeppgonhclaaPln
import Derived.Deep.Cut
import Derived.BigQuiet
import Derived.Deep.LoopGhost
namespace Go.Proofs.Ytbpfeppgonhclaa
open Go.ChangeShapes Go.WideShapes Go.ChangeAt Go.RowKit
set_option linter.unusedVariables false
set_option linter.unusedSimpArgs false
set_option maxRecDepth 100000
set_option maxHeartbeats 4000000 in
theorem at_c (a : Option Addr) (n c : Nat) (hn63 : n ≤ 9223372036854775807) (f g : Nat → Int) (hf : ∀ i, 0 ≤ f i ∧ f i < 18446744073709551616) (hg : ∀ i, 0 ≤ g i ∧ g i < 256) (x : Int) (hx : 0 ≤ x) (hx2 : x < 18446744073709551616) (w : World) (hmem : (0 < n → ∃ qb qo, a = some ⟨qb, qo, none⟩ ∧ qb < w.heap.size ∧ ∀ j, j < n → w.cell? ⟨qb, qo + j * 2, none⟩ = some (.int .u64 (f j)) ∧ w.cell? ⟨qb, qo + j * 2 + 1, none⟩ = some (.int .u8 (g j)))) : Calls Try.prog 16 #[.slice a n c, .int .u64 x] w fun q_ w' => q_ = .returned (.int .u8 (atD f g x n)) ∧ Below w.heap.size w w' := by
  suffices hall : ∀ (n_ : Nat) (W0 : World), n_ ≤ W0.heap.size → Below n_ W0 w → (0 < n → ∃ qb qo, a = some ⟨qb, qo, none⟩ ∧ qb < n_ ∧ ∀ j, j < n → W0.cell? ⟨qb, qo + j * 2, none⟩ = some (.int .u64 (f j)) ∧ W0.cell? ⟨qb, qo + j * 2 + 1, none⟩ = some (.int .u8 (g j))) → Calls Try.prog 16 #[.slice a n c, .int .u64 x] w fun q_ w' => q_ = .returned (.int .u8 (atD f g x n)) ∧ Below n_ W0 w' from hall _ _ (Nat.le_refl _) (Below.refl _ _) hmem
  intro n_ W0 hn hB hI
  have HN := Lib.hid hn
  have BB := Lib.hid hB
  have HIN := Lib.hid hI
  have HF := Lib.hid hf
  have HG := Lib.hid hg
  clear hn hB hI hmem hf hg
  go_enter Try.func16, Try.ntmps16
  have Q_ := own1 w (.cells #[.int .u64 0, .int .u8 0] 41)
  have B2 := Lib.hid (vian HN.out BB.out Q_)
  have P2 := Lib.hid (Has.new w #[.int .u64 0, .int .u8 0] 41)
  have LP := Lib.hid (show n_ ≤ w.heap.size from Nat.le_trans HN.out BB.out.size)
  clear Q_
  go_upto_region 2 with (fail)
  generalize w.alloc (.cells #[.int .u64 0, .int .u8 0] 41) = w2 at B2 P2 ⊢
  generalize w.heap.size = pb at P2 LP ⊢
  go_wp2
  go_loopg [10] n (fun g' i wr => ∃ (t : Nat), t ≤ n ∧ g' + t = n ∧ i = .int .i64 t ∧ Below n_ W0 wr ∧ Has wr pb #[.int .u64 (atT f x t), .int .u8 (atD f g x t)])
  case atStart => exact ⟨0, by omega, by omega, rfl, B2.out, P2.out⟩
  case round =>
    obtain ⟨t, ht, hg, rfl, hB, hP⟩ := hrel
    have TG := Lib.hid hg
    have B0 := Lib.hid hB
    have P0 := Lib.hid hP
    clear hg hB hP B2 P2
    have tb := atT_bd (x := x) HF.out t
    have db := atD_bd (f := f) (x := x) HG.out t
    by_cases hlt : t < n
    · have l1 : (t : Int) < n := by omega
      have l0 : (0 : Int) ≤ t := by omega
      obtain ⟨qb, qo, rfl, hqb, hcells⟩ := HIN.out (by omega)
      have QQ := Lib.hid hqb
      have E0 := Lib.hid (hcells t hlt).1
      have E1 := Lib.hid (hcells t hlt).2
      have fb := HF.out t
      have gb := HG.out t
      clear hcells hqb
      have Y1 := Lib.hid (fun h1 h2 => at_yes (f := f) (g := g) (x := x) (k := t) fb.1 h1 h2)
      have Y2 := Lib.hid (fun h1 => at_no1 (f := f) (g := g) (x := x) (k := t) h1)
      have Y3 := Lib.hid (fun h2 => at_no2 (f := f) (g := g) (x := x) (k := t) fb.1 h2)
      generalize atT f x t = T at P0 tb Y1 Y2 Y3
      generalize atD f g x t = D at P0 db Y1 Y2 Y3
      generalize f t = F at E0 fb Y1 Y2 Y3
      generalize g t = G at E1 gb Y1 Y2 Y3
      have Q_ := own1 wr (.cells #[.int .u64 F, .int .u8 G] 41)
      have B1 := Lib.hid (vian HN.out B0.out Q_)
      have P1 := Lib.hid (P0.out.below Q_)
      have U1 := Lib.hid (Has.new wr #[.int .u64 F, .int .u8 G] 41)
      have NUP := Lib.hid (show wr.heap.size ≠ pb from fun e => Nat.lt_irrefl _ (e ▸ P0.out.1 : wr.heap.size < wr.heap.size))
      clear Q_
      have e0 := (B0.out.cell (p := ⟨qb, qo + t * 2, none⟩) QQ.out).trans E0.out
      have e1 := (B0.out.cell (p := ⟨qb, qo + t * 2 + 1, none⟩) QQ.out).trans E1.out
      go_upto_region 5 with (fail)
      clear e0 e1 B0 P0
      generalize wr.alloc (.cells #[.int .u64 F, .int .u8 G] 41) = w1 at B1 P1 U1 ⊢
      generalize wr.heap.size = ub at U1 NUP ⊢
      obtain ⟨hcP, hfP⟩ := P1.out.out
      obtain ⟨hcU, hfU⟩ := U1.out.out
      by_cases c1 : T ≤ F
      · by_cases c2 : F ≤ x
        · go_wp2
          go_roundg (gk - 1)
          · have := Y1.out c2 c1
            exact ⟨t + 1, by omega, by have := TG.out; omega, by simp, set2 B1.out pb LP.out _ _, by rw [this.1, this.2]; exact P1.out.put2 _ _⟩
          case measure => have := TG.out; omega
        · go_wp2
          go_roundg (gk - 1)
          · have := Y2.out c2
            exact ⟨t + 1, by omega, by have := TG.out; omega, by simp, B1.out, by rw [this.1, this.2]; exact P1.out⟩
          case measure => have := TG.out; omega
      · go_wp2
        go_roundg (gk - 1)
        · have := Y3.out c1
          exact ⟨t + 1, by omega, by have := TG.out; omega, by simp, B1.out, by rw [this.1, this.2]; exact P1.out⟩
        case measure => have := TG.out; omega
    · have et : t = n := by omega
      subst et
      obtain ⟨hcP, hfP⟩ := P0.out.out
      go_wp2
      go_ret
      exact ⟨rfl, B0.out⟩
end Go.Proofs.Ytbpfeppgonhclaa
