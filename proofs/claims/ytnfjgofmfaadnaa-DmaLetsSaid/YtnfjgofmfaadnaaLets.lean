/-
  The walk through DmaLets: for every page, number of cycles and address; no condition but that each number fits.
-/
import Derived.Test.YtnfjgofmfaadnaaAwk
import Derived.Deep.Cut
import Derived.Deep.LoopGhost
import Derived.BigQuiet
import Derived.Laws.StructEq
namespace Go.Proofs.Ytnfjgofmfaadnaa
open Go.ChangeShapes Go.WideShapes Go.ChangeAt Go.RowKit
set_option linter.unusedVariables false
set_option linter.unusedSimpArgs false
set_option maxRecDepth 100000
set_option maxHeartbeats 4000000 in
theorem lets_aw (x a : Int) (N : Nat) (hN : N < 256) (L : Int) (hL : (atV x N).l = L) (h : 160 ≤ (N : Int)) (C1 : ∀ W, Calls Try.prog 9 #[.agg #[.int .u8 0, .int .i64 0], .int .u8 x] W fun q_ w' => q_ = .returned (.agg #[.int .u8 x, .int .i64 160]) ∧ Below W.heap.size W w') (C2 : (∀ t : Nat, ∃ f n b, ∀ W, Calls Try.prog 11 #[.agg #[.int .u8 (atV x t).p, .int .i64 (atV x t).l]] W fun q_ w' => q_ = .returned (.tuple #[.agg #[.int .u8 (atV x (t + 1)).p, .int .i64 (atV x (t + 1)).l], .int .u16 f, .int .i64 n, .bool b]) ∧ Below W.heap.size W w')) (C3 : ∀ W, Calls Try.prog 13 #[.agg #[.int .u8 x, .int .i64 L]] W fun q_ w' => q_ = .returned (.bool false) ∧ Below W.heap.size W w') (C4 : ∀ W, Calls Try.prog 14 #[.agg #[.int .u8 x, .int .i64 L], .int .u16 a] W fun q_ w' => q_ = .returned (.bool true) ∧ Below W.heap.size W w') (C5 : ∀ W, Calls Try.prog 14 #[.agg #[.int .u8 x, .int .i64 0], .int .u16 a] W fun q_ w' => q_ = .returned (.bool true) ∧ Below W.heap.size W w') (w : World) : Calls Try.prog 5 #[.int .u8 x, .int .u8 (N : Int), .int .u16 a] w fun q_ w' => q_ = .returned (.bool true) ∧ Below w.heap.size w w' := by
  suffices hall : ∀ (n_ : Nat) (W0 : World), n_ ≤ W0.heap.size → Below n_ W0 w → Calls Try.prog 5 #[.int .u8 x, .int .u8 (N : Int), .int .u16 a] w fun q_ w' => q_ = .returned (.bool true) ∧ Below n_ W0 w' from hall _ _ (Nat.le_refl _) (Below.refl _ _)
  intro n_ W0 hn hB
  have HN := Lib.hid hn
  have BB := Lib.hid hB
  clear hn hB
  have K1 := Lib.hid C1
  have SC := Lib.hid C2
  have K3 := Lib.hid C3
  have K4 := Lib.hid C4
  have K5 := Lib.hid C5
  clear C1 C2 C3 C4 C5
  have AW := Lib.hid awake_c
  have hnot : ∀ (x : Bool) (w : World), (Op.unary .not (.bool x)).run Try.prog w = .ok (.bool (!x)) w := fun _ _ => rfl
  have d1 : decide (160 ≤ (N : Int)) = true := by simpa using h
  have d2 : decide ((N : Int) < 160) = false := by simp at h ⊢; omega
  go_enter Try.func5, Try.ntmps5
  go_wp2_with fail
  with_reducible refine (AW.out _).mono ?_
  rintro q_ w1 ⟨rfl, hb⟩
  have B1 := Lib.hid (vian HN.out BB.out hb)
  clear hb 
  go_wp2_with fail
  with_reducible refine (K1.out _).mono ?_
  rintro q_ w2 ⟨rfl, hb⟩
  have B2 := Lib.hid (vian HN.out B1.out hb)
  clear hb B1
  have Q_ := own1 w2 (.cells #[.int .u8 x, .int .i64 160] 26)
  have B3 := Lib.hid (vian HN.out B2.out Q_)
  have P3 := Lib.hid (Has.new w2 #[.int .u8 x, .int .i64 160] 26)
  have LP := Lib.hid (show n_ ≤ w2.heap.size from Nat.le_trans HN.out B2.out.size)
  clear Q_
  go_upto_region 4 with (fail)
  generalize w2.alloc (.cells #[.int .u8 x, .int .i64 160] 26) = w3 at B3 P3 ⊢
  generalize w2.heap.size = pb at P3 LP  ⊢
  clear B2 
  go_wp2
  go_loopg [14] N (fun g' i w5 => ∃ (t : Nat), t ≤ N ∧ g' + t = N ∧ i = .int .u8 t ∧ Below n_ W0 w5 ∧ Has w5 pb #[.int .u8 (atV x t).p, .int .i64 (atV x t).l])
  case atStart => exact ⟨0, by omega, by omega, rfl, B3.out, P3.out⟩
  case round =>
    obtain ⟨w5, hw5⟩ : ∃ q_, q_ = wr := ⟨_, rfl⟩
    subst hw5
    obtain ⟨t, ht, hg, rfl, hB, hP⟩ := hrel
    have TG := Lib.hid hg
    have B5 := Lib.hid hB
    have P5 := Lib.hid hP
    clear hg hB hP B3 P3
    by_cases hlt : t < N
    · have l1 : (t : Int) < N := by omega
      have l2 : IntKind.u8.wrap ((t : Int) + 1) = (t : Int) + 1 := IntWalk.u8_in _ (by omega)
      obtain ⟨f, n, b, hT⟩ := SC.out t
      have TC := Lib.hid hT
      clear hT
      obtain ⟨m, hm⟩ : ∃ q_, atV x t = q_ := ⟨_, rfl⟩
      obtain ⟨m', hm'⟩ : ∃ q_, atV x (t + 1) = q_ := ⟨_, rfl⟩
      rw [hm] at TC P5
      rw [hm'] at TC
      have HM := Lib.hid hm'
      clear hm hm'
      obtain ⟨hc, hf⟩ := P5.out.out
      go_wp2_with fail
      with_reducible refine (TC.out _).mono ?_
      rintro q_ u1 ⟨rfl, hb⟩
      clear hc hf
      have B1 := Lib.hid (vian HN.out B5.out hb)
      have P1 := Lib.hid (P5.out.below hb)
      clear hb B5 P5
      have B2 := Lib.hid (set2 B1.out pb LP.out (.int .u8 m'.p) (.int .i64 m'.l))
      have P2 := Lib.hid (P1.out.put2 (.int .u8 m'.p) (.int .i64 m'.l))
      obtain ⟨hc, hf⟩ := P1.out.out
      go_wp2
      clear hc hf
      go_roundg (N - (t + 1))
      · exact ⟨t + 1, by omega, by omega, by simp, B2.out, HM.out ▸ P2.out⟩
      case measure => have := TG.out; omega
    · have et : t = N := by omega
      subst et
      rw [show (#[.int .u8 (atV x t).p, .int .i64 (atV x t).l] : Array Value) = #[.int .u8 x, .int .i64 L] by rw [hL]; rfl] at P5
      obtain ⟨hc0, hf0⟩ := P5.out.out
      go_wp2_with fail
      with_reducible refine (K3.out _).mono ?_
      rintro q_ w6 ⟨rfl, hb⟩
      clear hc0 hf0
      have B6 := Lib.hid (vian HN.out B5.out hb)
      have P6 := Lib.hid (P5.out.below hb)
      clear hb B5 P5
      obtain ⟨hc0, hf0⟩ := P6.out.out
      go_wp2_with fail
      with_reducible refine (K4.out _).mono ?_
      rintro q_ w7 ⟨rfl, hb⟩
      clear hc0 hf0
      have B7 := Lib.hid (vian HN.out B6.out hb)
      have P7 := Lib.hid (P6.out.below hb)
      clear hb B6 P6
      obtain ⟨hc0, hf0⟩ := P7.out.out
      go_wp2_with fail
      with_reducible refine (K5.out _).mono ?_
      rintro q_ w8 ⟨rfl, hb⟩
      clear hc0 hf0
      have B8 := Lib.hid (vian HN.out B7.out hb)
      have P8 := Lib.hid (P7.out.below hb)
      clear hb B7 P7
      obtain ⟨hc, hf⟩ := P8.out.out
      go_wp2
      go_ret
      exact ⟨rfl, B8.out⟩
set_option maxHeartbeats 4000000 in
theorem lets_bw (x a : Int) (N : Nat) (hN : N < 256) (L : Int) (hL : (atV x N).l = L) (h : ¬ 160 ≤ (N : Int)) (ha : 65280 ≤ a) (C1 : ∀ W, Calls Try.prog 9 #[.agg #[.int .u8 0, .int .i64 0], .int .u8 x] W fun q_ w' => q_ = .returned (.agg #[.int .u8 x, .int .i64 160]) ∧ Below W.heap.size W w') (C2 : (∀ t : Nat, ∃ f n b, ∀ W, Calls Try.prog 11 #[.agg #[.int .u8 (atV x t).p, .int .i64 (atV x t).l]] W fun q_ w' => q_ = .returned (.tuple #[.agg #[.int .u8 (atV x (t + 1)).p, .int .i64 (atV x (t + 1)).l], .int .u16 f, .int .i64 n, .bool b]) ∧ Below W.heap.size W w')) (C3 : ∀ W, Calls Try.prog 13 #[.agg #[.int .u8 x, .int .i64 L]] W fun q_ w' => q_ = .returned (.bool true) ∧ Below W.heap.size W w') (C4 : ∀ W, Calls Try.prog 14 #[.agg #[.int .u8 x, .int .i64 L], .int .u16 a] W fun q_ w' => q_ = .returned (.bool true) ∧ Below W.heap.size W w') (C5 : ∀ W, Calls Try.prog 14 #[.agg #[.int .u8 x, .int .i64 0], .int .u16 a] W fun q_ w' => q_ = .returned (.bool true) ∧ Below W.heap.size W w') (w : World) : Calls Try.prog 5 #[.int .u8 x, .int .u8 (N : Int), .int .u16 a] w fun q_ w' => q_ = .returned (.bool true) ∧ Below w.heap.size w w' := by
  suffices hall : ∀ (n_ : Nat) (W0 : World), n_ ≤ W0.heap.size → Below n_ W0 w → Calls Try.prog 5 #[.int .u8 x, .int .u8 (N : Int), .int .u16 a] w fun q_ w' => q_ = .returned (.bool true) ∧ Below n_ W0 w' from hall _ _ (Nat.le_refl _) (Below.refl _ _)
  intro n_ W0 hn hB
  have HN := Lib.hid hn
  have BB := Lib.hid hB
  clear hn hB
  have K1 := Lib.hid C1
  have SC := Lib.hid C2
  have K3 := Lib.hid C3
  have K4 := Lib.hid C4
  have K5 := Lib.hid C5
  clear C1 C2 C3 C4 C5
  have AW := Lib.hid awake_c
  have hnot : ∀ (x : Bool) (w : World), (Op.unary .not (.bool x)).run Try.prog w = .ok (.bool (!x)) w := fun _ _ => rfl
  have d1 : decide (160 ≤ (N : Int)) = false := by simpa using h
  have d2 : decide ((N : Int) < 160) = true := by simp at h ⊢; omega
  have d3 : decide (65280 ≤ a) = true := by simpa using ha
  go_enter Try.func5, Try.ntmps5
  go_wp2_with fail
  with_reducible refine (AW.out _).mono ?_
  rintro q_ w1 ⟨rfl, hb⟩
  have B1 := Lib.hid (vian HN.out BB.out hb)
  clear hb 
  go_wp2_with fail
  with_reducible refine (K1.out _).mono ?_
  rintro q_ w2 ⟨rfl, hb⟩
  have B2 := Lib.hid (vian HN.out B1.out hb)
  clear hb B1
  have Q_ := own1 w2 (.cells #[.int .u8 x, .int .i64 160] 26)
  have B3 := Lib.hid (vian HN.out B2.out Q_)
  have P3 := Lib.hid (Has.new w2 #[.int .u8 x, .int .i64 160] 26)
  have LP := Lib.hid (show n_ ≤ w2.heap.size from Nat.le_trans HN.out B2.out.size)
  clear Q_
  go_upto_region 4 with (fail)
  generalize w2.alloc (.cells #[.int .u8 x, .int .i64 160] 26) = w3 at B3 P3 ⊢
  generalize w2.heap.size = pb at P3 LP  ⊢
  clear B2 
  go_wp2
  go_loopg [14] N (fun g' i w5 => ∃ (t : Nat), t ≤ N ∧ g' + t = N ∧ i = .int .u8 t ∧ Below n_ W0 w5 ∧ Has w5 pb #[.int .u8 (atV x t).p, .int .i64 (atV x t).l])
  case atStart => exact ⟨0, by omega, by omega, rfl, B3.out, P3.out⟩
  case round =>
    obtain ⟨w5, hw5⟩ : ∃ q_, q_ = wr := ⟨_, rfl⟩
    subst hw5
    obtain ⟨t, ht, hg, rfl, hB, hP⟩ := hrel
    have TG := Lib.hid hg
    have B5 := Lib.hid hB
    have P5 := Lib.hid hP
    clear hg hB hP B3 P3
    by_cases hlt : t < N
    · have l1 : (t : Int) < N := by omega
      have l2 : IntKind.u8.wrap ((t : Int) + 1) = (t : Int) + 1 := IntWalk.u8_in _ (by omega)
      obtain ⟨f, n, b, hT⟩ := SC.out t
      have TC := Lib.hid hT
      clear hT
      obtain ⟨m, hm⟩ : ∃ q_, atV x t = q_ := ⟨_, rfl⟩
      obtain ⟨m', hm'⟩ : ∃ q_, atV x (t + 1) = q_ := ⟨_, rfl⟩
      rw [hm] at TC P5
      rw [hm'] at TC
      have HM := Lib.hid hm'
      clear hm hm'
      obtain ⟨hc, hf⟩ := P5.out.out
      go_wp2_with fail
      with_reducible refine (TC.out _).mono ?_
      rintro q_ u1 ⟨rfl, hb⟩
      clear hc hf
      have B1 := Lib.hid (vian HN.out B5.out hb)
      have P1 := Lib.hid (P5.out.below hb)
      clear hb B5 P5
      have B2 := Lib.hid (set2 B1.out pb LP.out (.int .u8 m'.p) (.int .i64 m'.l))
      have P2 := Lib.hid (P1.out.put2 (.int .u8 m'.p) (.int .i64 m'.l))
      obtain ⟨hc, hf⟩ := P1.out.out
      go_wp2
      clear hc hf
      go_roundg (N - (t + 1))
      · exact ⟨t + 1, by omega, by omega, by simp, B2.out, HM.out ▸ P2.out⟩
      case measure => have := TG.out; omega
    · have et : t = N := by omega
      subst et
      rw [show (#[.int .u8 (atV x t).p, .int .i64 (atV x t).l] : Array Value) = #[.int .u8 x, .int .i64 L] by rw [hL]; rfl] at P5
      obtain ⟨hc0, hf0⟩ := P5.out.out
      go_wp2_with fail
      with_reducible refine (K3.out _).mono ?_
      rintro q_ w6 ⟨rfl, hb⟩
      clear hc0 hf0
      have B6 := Lib.hid (vian HN.out B5.out hb)
      have P6 := Lib.hid (P5.out.below hb)
      clear hb B5 P5
      obtain ⟨hc0, hf0⟩ := P6.out.out
      go_wp2_with fail
      with_reducible refine (K4.out _).mono ?_
      rintro q_ w7 ⟨rfl, hb⟩
      clear hc0 hf0
      have B7 := Lib.hid (vian HN.out B6.out hb)
      have P7 := Lib.hid (P6.out.below hb)
      clear hb B6 P6
      obtain ⟨hc0, hf0⟩ := P7.out.out
      go_wp2_with fail
      with_reducible refine (K5.out _).mono ?_
      rintro q_ w8 ⟨rfl, hb⟩
      clear hc0 hf0
      have B8 := Lib.hid (vian HN.out B7.out hb)
      have P8 := Lib.hid (P7.out.below hb)
      clear hb B7 P7
      obtain ⟨hc, hf⟩ := P8.out.out
      go_wp2
      go_ret
      exact ⟨rfl, B8.out⟩
set_option maxHeartbeats 4000000 in
theorem lets_cw (x a : Int) (N : Nat) (hN : N < 256) (L : Int) (hL : (atV x N).l = L) (h : ¬ 160 ≤ (N : Int)) (ha : ¬ 65280 ≤ a) (C1 : ∀ W, Calls Try.prog 9 #[.agg #[.int .u8 0, .int .i64 0], .int .u8 x] W fun q_ w' => q_ = .returned (.agg #[.int .u8 x, .int .i64 160]) ∧ Below W.heap.size W w') (C2 : (∀ t : Nat, ∃ f n b, ∀ W, Calls Try.prog 11 #[.agg #[.int .u8 (atV x t).p, .int .i64 (atV x t).l]] W fun q_ w' => q_ = .returned (.tuple #[.agg #[.int .u8 (atV x (t + 1)).p, .int .i64 (atV x (t + 1)).l], .int .u16 f, .int .i64 n, .bool b]) ∧ Below W.heap.size W w')) (C3 : ∀ W, Calls Try.prog 13 #[.agg #[.int .u8 x, .int .i64 L]] W fun q_ w' => q_ = .returned (.bool true) ∧ Below W.heap.size W w') (C4 : ∀ W, Calls Try.prog 14 #[.agg #[.int .u8 x, .int .i64 L], .int .u16 a] W fun q_ w' => q_ = .returned (.bool false) ∧ Below W.heap.size W w') (C5 : ∀ W, Calls Try.prog 14 #[.agg #[.int .u8 x, .int .i64 0], .int .u16 a] W fun q_ w' => q_ = .returned (.bool true) ∧ Below W.heap.size W w') (w : World) : Calls Try.prog 5 #[.int .u8 x, .int .u8 (N : Int), .int .u16 a] w fun q_ w' => q_ = .returned (.bool true) ∧ Below w.heap.size w w' := by
  suffices hall : ∀ (n_ : Nat) (W0 : World), n_ ≤ W0.heap.size → Below n_ W0 w → Calls Try.prog 5 #[.int .u8 x, .int .u8 (N : Int), .int .u16 a] w fun q_ w' => q_ = .returned (.bool true) ∧ Below n_ W0 w' from hall _ _ (Nat.le_refl _) (Below.refl _ _)
  intro n_ W0 hn hB
  have HN := Lib.hid hn
  have BB := Lib.hid hB
  clear hn hB
  have K1 := Lib.hid C1
  have SC := Lib.hid C2
  have K3 := Lib.hid C3
  have K4 := Lib.hid C4
  have K5 := Lib.hid C5
  clear C1 C2 C3 C4 C5
  have AW := Lib.hid awake_c
  have hnot : ∀ (x : Bool) (w : World), (Op.unary .not (.bool x)).run Try.prog w = .ok (.bool (!x)) w := fun _ _ => rfl
  have d1 : decide (160 ≤ (N : Int)) = false := by simpa using h
  have d2 : decide ((N : Int) < 160) = true := by simp at h ⊢; omega
  have d3 : decide (65280 ≤ a) = false := by simpa using ha
  go_enter Try.func5, Try.ntmps5
  go_wp2_with fail
  with_reducible refine (AW.out _).mono ?_
  rintro q_ w1 ⟨rfl, hb⟩
  have B1 := Lib.hid (vian HN.out BB.out hb)
  clear hb 
  go_wp2_with fail
  with_reducible refine (K1.out _).mono ?_
  rintro q_ w2 ⟨rfl, hb⟩
  have B2 := Lib.hid (vian HN.out B1.out hb)
  clear hb B1
  have Q_ := own1 w2 (.cells #[.int .u8 x, .int .i64 160] 26)
  have B3 := Lib.hid (vian HN.out B2.out Q_)
  have P3 := Lib.hid (Has.new w2 #[.int .u8 x, .int .i64 160] 26)
  have LP := Lib.hid (show n_ ≤ w2.heap.size from Nat.le_trans HN.out B2.out.size)
  clear Q_
  go_upto_region 4 with (fail)
  generalize w2.alloc (.cells #[.int .u8 x, .int .i64 160] 26) = w3 at B3 P3 ⊢
  generalize w2.heap.size = pb at P3 LP  ⊢
  clear B2 
  go_wp2
  go_loopg [14] N (fun g' i w5 => ∃ (t : Nat), t ≤ N ∧ g' + t = N ∧ i = .int .u8 t ∧ Below n_ W0 w5 ∧ Has w5 pb #[.int .u8 (atV x t).p, .int .i64 (atV x t).l])
  case atStart => exact ⟨0, by omega, by omega, rfl, B3.out, P3.out⟩
  case round =>
    obtain ⟨w5, hw5⟩ : ∃ q_, q_ = wr := ⟨_, rfl⟩
    subst hw5
    obtain ⟨t, ht, hg, rfl, hB, hP⟩ := hrel
    have TG := Lib.hid hg
    have B5 := Lib.hid hB
    have P5 := Lib.hid hP
    clear hg hB hP B3 P3
    by_cases hlt : t < N
    · have l1 : (t : Int) < N := by omega
      have l2 : IntKind.u8.wrap ((t : Int) + 1) = (t : Int) + 1 := IntWalk.u8_in _ (by omega)
      obtain ⟨f, n, b, hT⟩ := SC.out t
      have TC := Lib.hid hT
      clear hT
      obtain ⟨m, hm⟩ : ∃ q_, atV x t = q_ := ⟨_, rfl⟩
      obtain ⟨m', hm'⟩ : ∃ q_, atV x (t + 1) = q_ := ⟨_, rfl⟩
      rw [hm] at TC P5
      rw [hm'] at TC
      have HM := Lib.hid hm'
      clear hm hm'
      obtain ⟨hc, hf⟩ := P5.out.out
      go_wp2_with fail
      with_reducible refine (TC.out _).mono ?_
      rintro q_ u1 ⟨rfl, hb⟩
      clear hc hf
      have B1 := Lib.hid (vian HN.out B5.out hb)
      have P1 := Lib.hid (P5.out.below hb)
      clear hb B5 P5
      have B2 := Lib.hid (set2 B1.out pb LP.out (.int .u8 m'.p) (.int .i64 m'.l))
      have P2 := Lib.hid (P1.out.put2 (.int .u8 m'.p) (.int .i64 m'.l))
      obtain ⟨hc, hf⟩ := P1.out.out
      go_wp2
      clear hc hf
      go_roundg (N - (t + 1))
      · exact ⟨t + 1, by omega, by omega, by simp, B2.out, HM.out ▸ P2.out⟩
      case measure => have := TG.out; omega
    · have et : t = N := by omega
      subst et
      rw [show (#[.int .u8 (atV x t).p, .int .i64 (atV x t).l] : Array Value) = #[.int .u8 x, .int .i64 L] by rw [hL]; rfl] at P5
      obtain ⟨hc0, hf0⟩ := P5.out.out
      go_wp2_with fail
      with_reducible refine (K3.out _).mono ?_
      rintro q_ w6 ⟨rfl, hb⟩
      clear hc0 hf0
      have B6 := Lib.hid (vian HN.out B5.out hb)
      have P6 := Lib.hid (P5.out.below hb)
      clear hb B5 P5
      obtain ⟨hc0, hf0⟩ := P6.out.out
      go_wp2_with fail
      with_reducible refine (K4.out _).mono ?_
      rintro q_ w7 ⟨rfl, hb⟩
      clear hc0 hf0
      have B7 := Lib.hid (vian HN.out B6.out hb)
      have P7 := Lib.hid (P6.out.below hb)
      clear hb B6 P6
      obtain ⟨hc0, hf0⟩ := P7.out.out
      go_wp2_with fail
      with_reducible refine (K5.out _).mono ?_
      rintro q_ w8 ⟨rfl, hb⟩
      clear hc0 hf0
      have B8 := Lib.hid (vian HN.out B7.out hb)
      have P8 := Lib.hid (P7.out.below hb)
      clear hb B7 P7
      obtain ⟨hc, hf⟩ := P8.out.out
      go_wp2
      go_ret
      exact ⟨rfl, B8.out⟩
theorem lets_walk (x y a : Int) (x0 : 0 ≤ x) (x1 : x < 256) (y0 : 0 ≤ y) (y1 : y < 256) (a0 : 0 ≤ a) (a1 : a < 65536) (w : World) : Calls Try.prog 5 #[.int .u8 x, .int .u8 y, .int .u16 a] w fun q_ w' => q_ = .returned (.bool true) ∧ Below w.heap.size w w' := by
  obtain ⟨N, hN⟩ := Int.eq_ofNat_of_zero_le y0
  subst hN
  have k1 : ∀ W, Calls Try.prog 9 #[.agg #[.int .u8 0, .int .i64 0], .int .u8 x] W fun q_ w' => q_ = .returned (.agg #[.int .u8 x, .int .i64 160]) ∧ Below W.heap.size W w' := fun W => write_c 0 0 x x0 x1 W
  have k2 : ∀ t : Nat, ∃ f n b, ∀ W, Calls Try.prog 11 #[.agg #[.int .u8 (atV x t).p, .int .i64 (atV x t).l]] W fun q_ w' => q_ = .returned (.tuple #[.agg #[.int .u8 (atV x (t + 1)).p, .int .i64 (atV x (t + 1)).l], .int .u16 f, .int .i64 n, .bool b]) ∧ Below W.heap.size W w' := fun t => ⟨_, _, _, fun W => tick_c (atV x t) (atV x (t + 1)) _ _ _ (at_ok x0 x1 t) (at_next x t) rfl rfl rfl W⟩
  have k5 : ∀ W, Calls Try.prog 14 #[.agg #[.int .u8 x, .int .i64 0], .int .u16 a] W fun q_ w' => q_ = .returned (.bool true) ∧ Below W.heap.size W w' := fun W => lets_c ⟨x, 0⟩ a _ a0 a1 (by simp [letsV]) W
  obtain ⟨L, eL⟩ : ∃ q, (atV x N).l = q := ⟨_, rfl⟩
  have hL : L = ((160 - N : Nat) : Int) := eL.symm
  by_cases h : 160 ≤ (N : Int)
  · exact lets_aw x a N (by omega) L eL h k1 k2 (fun W => busy_c ⟨x, L⟩ _ (decide_eq_false (by dsimp only; omega)) W) (fun W => lets_c ⟨x, L⟩ a _ a0 a1 (decide_eq_true (by dsimp only; omega)) W) k5 w
  · by_cases ha : 65280 ≤ a
    · exact lets_bw x a N (by omega) L eL h ha k1 k2 (fun W => busy_c ⟨x, L⟩ _ (decide_eq_true (by dsimp only; omega)) W) (fun W => lets_c ⟨x, L⟩ a _ a0 a1 (decide_eq_true (by dsimp only; omega)) W) k5 w
    · exact lets_cw x a N (by omega) L eL h ha k1 k2 (fun W => busy_c ⟨x, L⟩ _ (decide_eq_true (by dsimp only; omega)) W) (fun W => lets_c ⟨x, L⟩ a _ a0 a1 (decide_eq_false (by dsimp only; omega)) W) k5 w
end Go.Proofs.Ytnfjgofmfaadnaa
