/-
  awake answers true: for every world; no condition.
-/
import Derived.Test.YtnfjgofmfaadnaaFc
import Derived.Deep.Cut
namespace Go.Proofs.Ytnfjgofmfaadnaa
open Go.ChangeShapes Go.WideShapes Go.ChangeAt Go.RowKit
set_option linter.unusedVariables false
set_option linter.unusedSimpArgs false
set_option maxRecDepth 100000
set_option maxHeartbeats 2000000 in
theorem awake_c  (w : World) : Calls Try.prog 8 #[] w fun q_ w' => q_ = .returned (.bool true) ∧ Below w.heap.size w w' := by
  suffices hall : ∀ (n_ : Nat) (W0 : World), n_ ≤ W0.heap.size → Below n_ W0 w → Calls Try.prog 8 #[] w fun q_ w' => q_ = .returned (.bool true) ∧ Below n_ W0 w' from hall _ _ (Nat.le_refl _) (Below.refl _ _)
  intro n_ W0 hn hB
  have HN := Lib.hid hn
  have BB := Lib.hid hB
  clear hn hB
  have K1 := Lib.hid (show ∀ W, Calls Try.prog 9 #[.agg #[.int .u8 0, .int .i64 0], .int .u8 193] W fun q_ w' => q_ = .returned (.agg #[.int .u8 193, .int .i64 160]) ∧ Below W.heap.size W w' from fun W => write_c 0 0 193 (by decide) (by decide) W)
  have K2 := Lib.hid (show ∀ W, Calls Try.prog 11 #[.agg #[.int .u8 193, .int .i64 160]] W fun q_ w' => q_ = .returned (.tuple #[.agg #[.int .u8 193, .int .i64 159], .int .u16 49408, .int .i64 0, .bool true]) ∧ Below W.heap.size W w' from fun W => tick_c ⟨193, 160⟩ ⟨193, 159⟩ 49408 0 true ⟨⟨by decide, by decide⟩, by decide, by decide⟩ (by simp [tickV]) (by simp [fromV, baseV]) (by decide) (by decide) W)
  have K3 := Lib.hid (show ∀ W, Calls Try.prog 13 #[.agg #[.int .u8 193, .int .i64 159]] W fun q_ w' => q_ = .returned (.bool true) ∧ Below W.heap.size W w' from fun W => busy_c ⟨193, 159⟩ true (by decide) W)
  have hnot : ∀ (x : Bool) (w : World), (Op.unary .not (.bool x)).run Try.prog w = .ok (.bool (!x)) w := fun _ _ => rfl
  go_enter Try.func8, Try.ntmps8
  go_wp2_with fail
  with_reducible refine (K1.out _).mono ?_
  rintro q_ w1 ⟨rfl, hb⟩
  have B1 := Lib.hid (vian HN.out BB.out hb)
  clear hb 
  go_wp2_with fail
  with_reducible refine (K2.out _).mono ?_
  rintro q_ w2 ⟨rfl, hb⟩
  have B2 := Lib.hid (vian HN.out B1.out hb)
  clear hb B1
  have Q_ := own1 w2 (.cells #[.int .u8 193, .int .i64 159] 26)
  have B3 := Lib.hid (vian HN.out B2.out Q_)
  have P3 := Lib.hid (Has.new w2 #[.int .u8 193, .int .i64 159] 26)
  have LP := Lib.hid (show n_ ≤ w2.heap.size from Nat.le_trans HN.out B2.out.size)
  clear Q_
  go_upto_region 2 with (fail)
  generalize w2.alloc (.cells #[.int .u8 193, .int .i64 159] 26) = w3 at B3 P3 ⊢
  generalize w2.heap.size = pb at P3 LP  ⊢
  clear B2 
  obtain ⟨hc0, hf0⟩ := P3.out.out
  go_wp2_with fail
  with_reducible refine (K3.out _).mono ?_
  rintro q_ w4 ⟨rfl, hb⟩
  clear hc0 hf0
  have B4 := Lib.hid (vian HN.out B3.out hb)
  have P4 := Lib.hid (P3.out.below hb)
  clear hb B3 P3
  obtain ⟨hc0, hf0⟩ := P4.out.out
  go_wp2
  go_ret
  exact ⟨rfl, B4.out⟩
end Go.Proofs.Ytnfjgofmfaadnaa
