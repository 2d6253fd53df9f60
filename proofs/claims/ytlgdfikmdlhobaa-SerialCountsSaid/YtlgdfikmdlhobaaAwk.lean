/-
  awake answers true: for every world; no condition.
-/
import Derived.Test.YtlgdfikmdlhobaaFc
import Derived.Deep.Cut
namespace Go.Proofs.Ytlgdfikmdlhobaa
open Go.ChangeShapes Go.WideShapes Go.ChangeAt Go.RowKit
set_option linter.unusedVariables false
set_option linter.unusedSimpArgs false
set_option maxRecDepth 100000
theorem a_ok (d c l b n s : Int) (h : (0 ≤ d ∧ d < 256) ∧ (0 ≤ c ∧ c < 256) ∧ (0 ≤ l ∧ l < 256) ∧ (-1 ≤ b ∧ b ≤ 9) ∧ (0 ≤ n ∧ n ≤ 127) ∧ (0 ≤ s ∧ s ≤ 65535)) : PV.ok ⟨d, c, l, b, n, s⟩ := h
set_option maxHeartbeats 2000000 in
theorem awake_c  (w : World) : Calls Try.prog 8 #[] w fun q_ w' => q_ = .returned (.bool true) ∧ Below w.heap.size w w' := by
  suffices hall : ∀ (n_ : Nat) (W0 : World), n_ ≤ W0.heap.size → Below n_ W0 w → Calls Try.prog 8 #[] w fun q_ w' => q_ = .returned (.bool true) ∧ Below n_ W0 w' from hall _ _ (Nat.le_refl _) (Below.refl _ _)
  intro n_ W0 hn hB
  have HN := Lib.hid hn
  have BB := Lib.hid hB
  clear hn hB
  have K1 := Lib.hid (show ∀ W, Calls Try.prog 11 #[.agg #[.int .u8 0, .int .u8 0, .int .u8 0, .int .i64 0, .int .i64 0, .int .i64 0], .int .i64 0, .int .u8 65] W fun q_ w' => q_ = .returned (.agg #[.int .u8 65, .int .u8 0, .int .u8 0, .int .i64 0, .int .i64 0, .int .i64 0]) ∧ Below W.heap.size W w' from fun W => write_c zeroV ⟨65, 0, 0, 0, 0, 0⟩ 0 65 zero_ok (by decide) (by decide) rfl W)
  have K2 := Lib.hid (show ∀ W, Calls Try.prog 11 #[.agg #[.int .u8 65, .int .u8 0, .int .u8 0, .int .i64 0, .int .i64 0, .int .i64 0], .int .i64 1, .int .u8 129] W fun q_ w' => q_ = .returned (.agg #[.int .u8 65, .int .u8 129, .int .u8 65, .int .i64 8, .int .i64 0, .int .i64 1]) ∧ Below W.heap.size W w' from fun W => write_c ⟨65, 0, 0, 0, 0, 0⟩ ⟨65, 129, 65, 8, 0, 1⟩ 1 129 (a_ok _ _ _ _ _ _ (by decide)) (by decide) (by decide) (by simp [wrV, begins]) W)
  have K3 := Lib.hid (show ∀ W, Calls Try.prog 9 #[.agg #[.int .u8 65, .int .u8 129, .int .u8 65, .int .i64 8, .int .i64 0, .int .i64 1]] W fun q_ w' => q_ = .returned (.tuple #[.agg #[.int .u8 65, .int .u8 129, .int .u8 65, .int .i64 8, .int .i64 1, .int .i64 1], .bool false]) ∧ Below W.heap.size W w' from fun W => tick_c ⟨65, 129, 65, 8, 0, 1⟩ ⟨65, 129, 65, 8, 1, 1⟩ false (a_ok _ _ _ _ _ _ (by decide)) (by simp [tickV]) (by simp [tickI]) W)
  have K4 := Lib.hid (show ∀ W, Calls Try.prog 13 #[.agg #[.int .u8 65, .int .u8 129, .int .u8 65, .int .i64 8, .int .i64 0, .int .i64 1], .int .i64 1] W fun q_ w' => q_ = .returned (.int .u8 255) ∧ Below W.heap.size W w' from fun W => read_c ⟨65, 129, 65, 8, 0, 1⟩ 1 255 (a_ok _ _ _ _ _ _ (by decide)) (by simp [readV]) W)
  have hnot : ∀ (x : Bool) (w : World), (Op.unary .not (.bool x)).run Try.prog w = .ok (.bool (!x)) w := fun _ _ => rfl
  go_enter Try.func8, Try.ntmps8
  go_wp2_with fail
  with_reducible refine (K1.out _).mono ?_
  rintro q_ w1 ⟨rfl, hb⟩
  have B1 := Lib.hid (vian HN.out BB.out hb)
  clear hb 
  go_wp2_with fail
  with_reducible refine (K2.out _).mono ?_
  rintro q_ w2 ⟨rfl, hb⟩
  have B2 := Lib.hid (vian HN.out B1.out hb)
  clear hb B1
  have Q_ := own1 w2 (.cells #[.int .u8 65, .int .u8 129, .int .u8 65, .int .i64 8, .int .i64 0, .int .i64 1] 25)
  have B3 := Lib.hid (vian HN.out B2.out Q_)
  have P3 := Lib.hid (Has.new w2 #[.int .u8 65, .int .u8 129, .int .u8 65, .int .i64 8, .int .i64 0, .int .i64 1] 25)
  have LP := Lib.hid (show n_ ≤ w2.heap.size from Nat.le_trans HN.out B2.out.size)
  clear Q_
  go_upto_region 2 with (fail)
  generalize w2.alloc (.cells #[.int .u8 65, .int .u8 129, .int .u8 65, .int .i64 8, .int .i64 0, .int .i64 1] 25) = w3 at B3 P3 ⊢
  generalize w2.heap.size = pb at P3 LP ⊢
  clear B2 
  obtain ⟨hc0, hf0⟩ := P3.out.out
  go_wp2_with fail
  with_reducible refine (K3.out _).mono ?_
  rintro q_ w4 ⟨rfl, hb⟩
  clear hc0 hf0
  have B4 := Lib.hid (vian HN.out B3.out hb)
  have P4 := Lib.hid (P3.out.below hb)
  clear hb B3 P3
  have Q_ := own1 w4 (.cells #[.int .u8 65, .int .u8 129, .int .u8 65, .int .i64 8, .int .i64 1, .int .i64 1] 25)
  have B5 := Lib.hid (vian HN.out B4.out Q_)
  have P5 := Lib.hid (P4.out.below Q_)
  have R5 := Lib.hid (Has.new w4 #[.int .u8 65, .int .u8 129, .int .u8 65, .int .i64 8, .int .i64 1, .int .i64 1] 25)
  have LR := Lib.hid (show n_ ≤ w4.heap.size from Nat.le_trans HN.out B4.out.size)
  clear Q_
  go_upto_region 3 with (fail)
  generalize w4.alloc (.cells #[.int .u8 65, .int .u8 129, .int .u8 65, .int .i64 8, .int .i64 1, .int .i64 1] 25) = w5 at B5 P5 R5 ⊢
  generalize w4.heap.size = rb at R5 LR ⊢
  clear B4 P4
  obtain ⟨hc0, hf0⟩ := P5.out.out
  obtain ⟨hc1, hf1⟩ := R5.out.out
  go_wp2_with fail
  with_reducible refine (K4.out _).mono ?_
  rintro q_ w6 ⟨rfl, hb⟩
  clear hc0 hf0 hc1 hf1
  have B6 := Lib.hid (vian HN.out B5.out hb)
  have P6 := Lib.hid (P5.out.below hb)
  have R6 := Lib.hid (R5.out.below hb)
  clear hb B5 P5 R5
  obtain ⟨hc0, hf0⟩ := P6.out.out
  obtain ⟨hc1, hf1⟩ := R6.out.out
  go_wp2
  go_ret
  exact ⟨rfl, B6.out⟩
end Go.Proofs.Ytlgdfikmdlhobaa
