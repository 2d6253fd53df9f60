/-
  Two rows of numbers that are alike: the law's own comparison; no condition but that there are few.
-/
import Derived.Test.YtiekojnhkemjlaaRdc
import Derived.Test.YtiekojnhkemjlaaOpn
import Derived.Deep.Cut
import Derived.BigQuiet
import Derived.WalkSmall
import Derived.Deep.LoopGhost
namespace Go.Proofs.Ytiekojnhkemjlaa
open Go.ChangeShapes Go.WideShapes Go.ChangeAt Go.RowKit
set_option linter.unusedVariables false
set_option linter.unusedSimpArgs false
set_option maxRecDepth 100000
theorem rowG_mk {w : World} {a : Option Addr} {n c : Nat} {f : M} {g : Nat} (h : n ≤ c ∧ (0 < n → a = some ⟨g, 0, none⟩ ∧ g < w.heap.size ∧ (∀ j, j < n → w.cell? ⟨g, j, none⟩ = some (.int .i64 (f j))) ∧ ∀ j, w.frozen? ⟨g, j, none⟩ = false)) : RowG w (.slice a n c) n f g := ⟨a, c, rfl, h.1, h.2⟩
set_option maxHeartbeats 2000000 in
theorem same_c (a b : Option Addr) (n c d : Nat) (f : M) (g h : Nat) (hn : n ≤ 100) (w : World) (hA : RowG w (.slice a n c) n f g) (hB : RowG w (.slice b n d) n f h) :
    Calls Try.prog 13 #[.slice a n c, .slice b n d] w fun q_ w' => q_ = .returned (.bool true) ∧ Below w.heap.size w w' := by
  obtain ⟨a1, c1, e1, _, hA⟩ := hA
  obtain ⟨b1, d1, e2, _, hB⟩ := hB
  injection e1 with ea eb ec
  injection e2 with fa fb fc
  subst ea ec fa fc
  have HA := Lib.hid hA
  have HB := Lib.hid hB
  have BB := Lib.hid (Below.refl w.heap.size w)
  clear hA hB eb fb
  go_enter Try.func13, Try.ntmps13
  go_wp2
  go_loopg [13] n (fun g' i wr => ∃ (t : Nat), t ≤ n ∧ g' + t = n ∧ i = .int .i64 t ∧ Below w.heap.size w wr)
  case atStart => exact ⟨0, by omega, by omega, rfl, BB.out⟩
  case round =>
    obtain ⟨u1, hw5⟩ : ∃ q_, q_ = wr := ⟨_, rfl⟩
    subst hw5
    obtain ⟨t, ht, hg, rfl, hB1⟩ := hrel
    have TG := Lib.hid hg
    have B1 := Lib.hid hB1
    clear hg hB1 BB
    by_cases hlt : t < n
    · have l1 : (t : Int) < n := by omega
      have l0 : (0 : Int) ≤ t := by omega
      obtain ⟨rfl, hg1, hc1, hf1⟩ := HA.out (by omega)
      obtain ⟨rfl, hg2, hc2, hf2⟩ := HB.out (by omega)
      have e1 := (B1.out.cell (p := ⟨g, t, none⟩) hg1).trans (hc1 t hlt)
      have e2 := (B1.out.cell (p := ⟨h, t, none⟩) hg2).trans (hc2 t hlt)
      obtain ⟨x, hx⟩ : ∃ q_, q_ = f t := ⟨_, rfl⟩
      rw [← hx] at e1 e2
      clear hc1 hc2 hf1 hf2 hx
      go_upto_region 6 with (fail)
      go_quiet (fail)
      go_wp2
      go_roundg (n - (t + 1))
      case measure => have := TG.out; omega
      case rel => exact ⟨t + 1, by omega, by have := TG.out; omega, by simp, below_drewN B1.out _⟩
    · have te : t = n := by omega
      subst te
      have l1 : ¬ (t : Int) < t := by omega
      go_wp2
      go_ret
      exact ⟨rfl, B1.out⟩
end Go.Proofs.Ytiekojnhkemjlaa
