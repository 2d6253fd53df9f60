/-
  The walk through JoypadLines: for every byte; no other condition.
-/
import Derived.Test.YtbpfeppgonhclaaAwk
import Derived.Deep.Cut
import Derived.Laws.StructEq
namespace Go.Proofs.Ytbpfeppgonhclaa
open Go.ChangeShapes Go.WideShapes Go.ChangeAt Go.RowKit
set_option linter.unusedVariables false
set_option linter.unusedSimpArgs false
set_option maxRecDepth 100000
set_option maxHeartbeats 2000000 in
theorem lines_walk (d : Int) (hd : 0 ≤ d) (hd2 : d < 256) (w : World) : Calls Try.prog 4 #[.int .u8 d] w fun q_ w' => q_ = .returned (.bool true) ∧ Below w.heap.size w w' := by
  suffices hall : ∀ (n_ : Nat) (W0 : World), n_ ≤ W0.heap.size → Below n_ W0 w → Calls Try.prog 4 #[.int .u8 d] w fun q_ w' => q_ = .returned (.bool true) ∧ Below n_ W0 w' from hall _ _ (Nat.le_refl _) (Below.refl _ _)
  intro n_ W0 hn hB
  have HN := Lib.hid hn
  have BB := Lib.hid hB
  clear hn hB
  have AW := Lib.hid awake_c
  have hnot : ∀ (x : Bool) (w : World), (Op.unary .not (.bool x)).run Try.prog w = .ok (.bool (!x)) w := fun _ _ => rfl
  have r0 : rdV 48 d = 255 := byte_all (P := fun d => rdV 48 d = 255) (by decide +kernel) d hd hd2
  have K0 := Lib.hid (fun W => read_c 48 d (by decide) (by decide) hd hd2 W)
  have K1 := Lib.hid (fun W => read_c 32 d (by decide) (by decide) hd hd2 W)
  have K2 := Lib.hid (fun W => read_c 16 d (by decide) (by decide) hd hd2 W)
  have K3 := Lib.hid (fun W => read_c 0 d (by decide) (by decide) hd hd2 W)
  rw [r0] at K0
  obtain ⟨x1, h1⟩ : ∃ x, rdV 32 d = x := ⟨_, rfl⟩
  rw [h1] at K1
  obtain ⟨x2, h2⟩ : ∃ x, rdV 16 d = x := ⟨_, rfl⟩
  rw [h2] at K2
  obtain ⟨x3, h3⟩ : ∃ x, rdV 0 d = x := ⟨_, rfl⟩
  rw [h3] at K3
  have e1 : bits .or .u8 224 (bits .and .u8 (bits .xor .u8 IntKind.u8.max d) 15) = x1 := (byte_all (P := fun d => bits .or .u8 224 (bits .and .u8 (bits .xor .u8 IntKind.u8.max d) 15) = rdV 32 d) (by decide +kernel) d hd hd2).trans h1
  have e2 : bits .or .u8 208 (bits .and .u8 (bits .xor .u8 IntKind.u8.max (d / 16)) 15) = x2 := (byte_all (P := fun d => bits .or .u8 208 (bits .and .u8 (bits .xor .u8 IntKind.u8.max (d / 16)) 15) = rdV 16 d) (by decide +kernel) d hd hd2).trans h2
  have e3 : bits .or .u8 192 (bits .and .u8 (bits .xor .u8 IntKind.u8.max (bits .or .u8 d (d / 16))) 15) = x3 := (byte_all (P := fun d => bits .or .u8 192 (bits .and .u8 (bits .xor .u8 IntKind.u8.max (bits .or .u8 d (d / 16))) 15) = rdV 0 d) (by decide +kernel) d hd hd2).trans h3
  have sg : ¬ IntKind.u8.signed = true := by decide
  clear h1 h2 h3 r0
  go_enter Try.func4, Try.ntmps4
  go_wp2_with fail
  with_reducible refine (AW.out _).mono ?_
  rintro q_ w1 ⟨rfl, hb⟩
  have B1 := Lib.hid (vian HN.out BB.out hb)
  clear hb 
  go_wp2_with fail
  with_reducible refine (K0.out _).mono ?_
  rintro q_ w2 ⟨rfl, hb⟩
  have B2 := Lib.hid (vian HN.out B1.out hb)
  clear hb B1
  go_wp2_with fail
  with_reducible refine (K1.out _).mono ?_
  rintro q_ w3 ⟨rfl, hb⟩
  have B3 := Lib.hid (vian HN.out B2.out hb)
  clear hb B2
  go_wp2_with fail
  with_reducible refine (K2.out _).mono ?_
  rintro q_ w4 ⟨rfl, hb⟩
  have B4 := Lib.hid (vian HN.out B3.out hb)
  clear hb B3
  go_wp2_with fail
  with_reducible refine (K3.out _).mono ?_
  rintro q_ w5 ⟨rfl, hb⟩
  have B5 := Lib.hid (vian HN.out B4.out hb)
  clear hb B4
  go_wp2
  go_ret
  exact ⟨rfl, B5.out⟩
end Go.Proofs.Ytbpfeppgonhclaa
