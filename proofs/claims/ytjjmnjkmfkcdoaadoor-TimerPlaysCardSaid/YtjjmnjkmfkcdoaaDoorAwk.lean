/-
  The law's own look whether the program does anything: it does; no condition but that the table lies as it is laid.
-/
import Derived.Test.YtjjmnjkmfkcdoaaDoorPt
import Derived.Deep.Cut
namespace Go.Proofs.YtjjmnjkmfkcdoaaDoor
open Go.ChangeShapes Go.WideShapes Go.ChangeAt Go.RowKit
set_option linter.unusedVariables false
set_option linter.unusedSimpArgs false
set_option maxRecDepth 100000
theorem aw_0 (W : World) (hG : Glob W) : Calls Tryd.prog 10 #[.agg #[.int .u16 12, .int .u8 255, .int .u8 7, .int .u8 5, .bool false]] W fun q_ w' => q_ = .returned (.tuple #[.agg #[.int .u16 16, .int .u8 0, .int .u8 7, .int .u8 5, .bool true], .bool false]) ∧ Below W.heap.size W w' :=
  pt_c ⟨12, 255, 7, 5, false⟩ ⟨16, 0, 7, 5, true⟩ ⟨by decide, by decide, by decide, by decide⟩ rfl W hG
theorem aw_1 (W : World) (hG : Glob W) : Calls Tryd.prog 10 #[.agg #[.int .u16 16, .int .u8 0, .int .u8 7, .int .u8 5, .bool true]] W fun q_ w' => q_ = .returned (.tuple #[.agg #[.int .u16 20, .int .u8 7, .int .u8 7, .int .u8 5, .bool false], .bool true]) ∧ Below W.heap.size W w' :=
  pt_c ⟨16, 0, 7, 5, true⟩ ⟨20, 7, 7, 5, false⟩ ⟨by decide, by decide, by decide, by decide⟩ rfl W hG
set_option maxHeartbeats 2000000 in
theorem awake_c  (w : World) (hglob : Glob w) : Calls Tryd.prog 9 #[] w fun q_ w' => q_ = .returned (.bool true) ∧ Below w.heap.size w w' := by
  suffices hall : ∀ (n_ : Nat) (W0 : World), n_ ≤ W0.heap.size → Below n_ W0 w → Tab n_ W0 → Calls Tryd.prog 9 #[] w fun q_ w' => q_ = .returned (.bool true) ∧ Below n_ W0 w' from hall _ _ (Nat.le_refl _) (Below.refl _ _) ⟨hglob.1, hglob⟩
  intro n_ W0 hn hB hT
  have HN := Lib.hid hn
  have BB := Lib.hid hB
  have TT := Lib.hid hT
  clear hn hB hT hglob
  have H1 := Lib.hid aw_0
  have H2 := Lib.hid aw_1
  have hnot : ∀ (x : Bool) (w : World), (Op.unary .not (.bool x)).run Tryd.prog w = .ok (.bool (!x)) w := fun _ _ => rfl
  go_enter Tryd.func9, Tryd.ntmps9
  go_wp2_with fail
  with_reducible refine (H1.out _ (TT.out.next BB.out).g).mono ?_
  rintro q_ w1 ⟨rfl, hb⟩
  have B1 := Lib.hid (vian HN.out BB.out hb)
  clear hb
  have P1 := Lib.hid (Has.new w1 #[.int .u16 16, .int .u8 0, .int .u8 7, .int .u8 5, .bool true] 27)
  have B2 := Lib.hid (vian HN.out B1.out (own1 w1 (.cells #[.int .u16 16, .int .u8 0, .int .u8 7, .int .u8 5, .bool true] 27)))
  go_upto_region 2 with (fail)
  generalize w1.alloc (.cells #[.int .u16 16, .int .u8 0, .int .u8 7, .int .u8 5, .bool true] 27) = w2 at P1 B2 ⊢
  generalize w1.heap.size = pb at P1 ⊢
  obtain ⟨hc, hf⟩ := P1.out.out
  go_wp2_with fail
  with_reducible refine (H2.out _ (TT.out.next B2.out).g).mono ?_
  rintro q_ w3 ⟨rfl, hb⟩
  have B3 := Lib.hid (vian HN.out B2.out hb)
  have P3 := Lib.hid (P1.out.below hb)
  clear hb hc hf P1
  have P4 := Lib.hid (P3.out.alloc (.cells #[.int .u16 20, .int .u8 7, .int .u8 7, .int .u8 5, .bool false] 27))
  have R4 := Lib.hid (Has.new w3 #[.int .u16 20, .int .u8 7, .int .u8 7, .int .u8 5, .bool false] 27)
  have B4 := Lib.hid (vian HN.out B3.out (own1 w3 (.cells #[.int .u16 20, .int .u8 7, .int .u8 7, .int .u8 5, .bool false] 27)))
  go_upto_region 3 with (fail)
  generalize w3.alloc (.cells #[.int .u16 20, .int .u8 7, .int .u8 7, .int .u8 5, .bool false] 27) = w4 at P4 R4 B4 ⊢
  generalize w3.heap.size = rb at R4 ⊢
  obtain ⟨hc, hf⟩ := P4.out.out
  obtain ⟨hr, hrf⟩ := R4.out.out
  go_wp2
  go_ret
  exact ⟨rfl, B4.out⟩
end Go.Proofs.YtjjmnjkmfkcdoaaDoor
