/-
  The law's own accesses: true of two lists that bear the same accesses, for every world; its condition: that they do, and are shorter than 2^60.
-/
import Derived.Test.YtngdogldgcgnjaaGreatL1
import Derived.Deep.LoopGhost
import Derived.Deep.Cut
import Derived.StillTailTactics
namespace Go.Proofs.YtngdogldgcgnjaaGreat
open Go.ChangeShapes Go.WideShapes Go.ChangeAt Go.RowKit
set_option linter.unusedVariables false
set_option maxRecDepth 100000
/-- v is a list of the accesses l. -/
def AR (w : World) (a : Option Addr) (l : List Ac) : Prop := ∀ i (x : Ac), l[i]? = some x → ∃ b o, a = some ⟨b, o, none⟩ ∧ b < w.heap.size ∧
  w.cell? ⟨b, o + i * 3, none⟩ = some (.int .i64 x.k) ∧ w.cell? ⟨b, o + i * 3 + 1, none⟩ = some (.int .u16 x.a) ∧ w.cell? ⟨b, o + i * 3 + 2, none⟩ = some (.int .u8 x.v)
theorem AR.below {w w' : World} {a : Option Addr} {l : List Ac} (h : AR w a l) (hb : Below w.heap.size w w') : AR w' a l := fun i x hx => by
  obtain ⟨b, o, e, hl, h0, h1, h2⟩ := h i x hx
  exact ⟨b, o, e, Nat.lt_of_lt_of_le hl hb.size, (hb.cell (p := ⟨b, o + i * 3, none⟩) hl).trans h0, (hb.cell (p := ⟨b, o + i * 3 + 1, none⟩) hl).trans h1, (hb.cell (p := ⟨b, o + i * 3 + 2, none⟩) hl).trans h2⟩
set_option maxHeartbeats 2000000 in
theorem acc_c (a1 a2 : Option Addr) (c1 c2 : Nat) (l : List Ac) (w : World) (hl : l.length < 1000000) (h1 : AR w a1 l) (h2 : AR w a2 l) :
    Calls Tryz.prog 17 #[.slice a1 l.length c1, .slice a2 l.length c2] w fun e w' => e = .returned (.bool true) ∧ Below w.heap.size w w' := by
  have H1 := Lib.hid h1
  have H2 := Lib.hid h2
  have HL := Lib.hid hl
  have hlI : (l.length : Int) < 1000000 := by omega
  clear h1 h2 hl
  obtain ⟨n, hn⟩ : ∃ n, l.length = n := ⟨_, rfl⟩
  have HN := Lib.hid hn
  rw [hn] at hlI ⊢
  clear hn
  go_enter Tryz.func17, Tryz.ntmps17
  go_wp2
  go_loopg [13] n (fun g i wr => ∃ k : Nat, k ≤ n ∧ g + k = n ∧ i = .int .i64 k ∧ Below w.heap.size w wr)
  case atStart => exact ⟨0, by omega, by omega, rfl, Below.refl _ _⟩
  case round =>
    obtain ⟨k, hk, hg, rfl, hB⟩ := hrel
    have GG := Lib.hid hg
    have BB := Lib.hid hB
    clear hB hg
    by_cases hlt : k < n
    · have h0 : (0 : Int) ≤ k := by omega
      have h1 : (k : Int) < n := by omega
      have hx : l[k]? = some (l[k]'(by rw [HN.out]; exact hlt)) := List.getElem?_eq_getElem _
      generalize (l[k]'(by rw [HN.out]; exact hlt)) = x at hx
      obtain ⟨b1, o1, rfl, -, p0, p1, p2⟩ := (H1.out.below BB.out) k x hx
      obtain ⟨b2, o2, rfl, -, q0, q1, q2⟩ := (H2.out.below BB.out) k x hx
      go_upto_region 6 with (fail)
      go_region
      go_wp2
      go_roundg (gk - 1)
      exact ⟨k + 1, by omega, by have := GG.out; omega, by simp, BB.out.drew⟩
      case measure => have := GG.out; omega
    · have e : k = n := by omega
      subst e
      go_wp2
      go_ret
      exact ⟨rfl, BB.out⟩
end Go.Proofs.YtngdogldgcgnjaaGreat
