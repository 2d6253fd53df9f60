/-
  What the document's Same returns, for every two slices of bytes of one length that are not nil: whether all bytes are alike; no condition but that they are there and not too many.
-/
import Derived.Test.YtiolfmmekcahaaaFrame
import Derived.Deep.QuietTactic
import Derived.BigQuiet
import Derived.WalkSmall
namespace Go.Proofs.Ytiolfmmekcahaaa
open Go.ChangeShapes Go.WideShapes Go.ChangeAt Go.RowKit

set_option maxHeartbeats 1000000 in
theorem same_c (b1 o1 c1 b2 o2 c2 n : Nat) (f g : Nat → Int) (q : Bool) (hq : q = true ↔ ∀ k, k < n → f k = g k) (hm : n ≤ 1000000) (w : World)
    (hb1 : b1 < w.heap.size) (hb2 : b2 < w.heap.size)
    (h1 : ∀ k, k < n → w.cell? ⟨b1, o1 + k, none⟩ = some (.int .u8 (f k))) (h2 : ∀ k, k < n → w.cell? ⟨b2, o2 + k, none⟩ = some (.int .u8 (g k))) :
    Calls Try.prog 23 #[.slice (some ⟨b1, o1, none⟩) n c1, .slice (some ⟨b2, o2, none⟩) n c2] w fun e w' => e = .returned (.bool q) ∧ Below w.heap.size w w' := by
  have HQ := Lib.hid hq; have H1 := Lib.hid h1; have H2 := Lib.hid h2
  clear hq h1 h2
  go_enter Try.func23, Try.ntmps23
  go_wp2
  go_loopw [13] (fun i wr => ∃ k : Nat, k ≤ n ∧ i = .int .i64 k ∧ Below w.heap.size w wr ∧ Hid (∀ j, j < k → f j = g j)) (fun i _ => n - (intOf i).toNat)
  case atStart => exact ⟨0, Nat.zero_le _, rfl, Below.refl _ _, fun j h => absurd h (Nat.not_lt_zero _)⟩
  case round =>
    obtain ⟨k, hk, rfl, hb, HE⟩ := hrel
    have HB := Lib.hid hb
    by_cases hlt : k < n
    · have g1 := (hb.cell (p := ⟨b1, o1 + k, none⟩) hb1).trans (H1.out k hlt)
      have g2 := (hb.cell (p := ⟨b2, o2 + k, none⟩) hb2).trans (H2.out k hlt)
      have hki : (k : Int) < (n : Int) := by omega
      clear hb
      by_cases he : f k = g k
      · have ne : (f k != g k) = false := by simp [he]
        have he' := Lib.hid he; clear he
        go_wp2
        go_quiet (fail)
        go_wp2
        go_roundw
        case rel => exact ⟨k + 1, by omega, by go_num, below_drewN HB.out _, fun j h => if e : j = k then e ▸ he'.out else HE.out j (by omega)⟩
        case measure => simp [intOf]; omega
      · have ne : (f k != g k) = true := by simp [he]
        have hqf : q = false := by
          cases q with
          | false => rfl
          | true => exact absurd (HQ.out.1 rfl k hlt) he
        subst hqf
        clear he
        go_wp2
        go_quiet (fail)
        go_wp2
        go_ret
        exact ⟨rfl, below_drewN HB.out _⟩
    · have hqt : q = true := HQ.out.2 fun j h => HE.out j (by omega)
      subst hqt
      clear hb
      go_wp2
      go_ret
      exact ⟨rfl, HB.out⟩
end Go.Proofs.Ytiolfmmekcahaaa
