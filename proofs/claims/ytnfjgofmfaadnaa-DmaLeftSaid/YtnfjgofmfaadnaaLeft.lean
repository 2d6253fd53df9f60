/-
  The walk through DmaLeft: for every page, number of cycles and page; no condition but that each number fits.
-/
import Derived.Test.YtnfjgofmfaadnaaAwk
import Derived.Deep.Cut
import Derived.Deep.LoopGhost
import Derived.BigQuiet
import Derived.Laws.StructEq
namespace Go.Proofs.Ytnfjgofmfaadnaa
open Go.ChangeShapes Go.WideShapes Go.ChangeAt Go.RowKit
set_option linter.unusedVariables false
set_option linter.unusedSimpArgs false
set_option maxRecDepth 100000
set_option maxHeartbeats 4000000 in
theorem left_a (x cy y : Int) (c0 : 0 ≤ cy) (c1 : cy < 65536) (N : Nat) (hN : N < 400) (e0 : cy.tmod 400 = N) (L : Int) (hL : (atV x N).l = L) (hL2 : L = ((160 - N : Nat) : Int)) (h : 160 ≤ N) (C1 : ∀ W, Calls Try.prog 9 #[.agg #[.int .u8 0, .int .i64 0], .int .u8 x] W fun q_ w' => q_ = .returned (.agg #[.int .u8 x, .int .i64 160]) ∧ Below W.heap.size W w') (C2 : (∀ t : Nat, ∃ f n, ∀ W, Calls Try.prog 11 #[.agg #[.int .u8 (atV x t).p, .int .i64 (atV x t).l]] W fun q_ w' => q_ = .returned (.tuple #[.agg #[.int .u8 (atV x (t + 1)).p, .int .i64 (atV x (t + 1)).l], .int .u16 f, .int .i64 n, .bool (decide (t < 160))]) ∧ Below W.heap.size W w')) (C3 : ∀ W, Calls Try.prog 9 #[.agg #[.int .u8 x, .int .i64 L], .int .u8 y] W fun q_ w' => q_ = .returned (.agg #[.int .u8 y, .int .i64 160]) ∧ Below W.heap.size W w') (w : World) : Calls Try.prog 7 #[.int .u8 x, .int .u16 cy, .int .u8 y] w fun q_ w' => q_ = .returned (.bool true) ∧ Below w.heap.size w w' := by
  suffices hall : ∀ (n_ : Nat) (W0 : World), n_ ≤ W0.heap.size → Below n_ W0 w → Calls Try.prog 7 #[.int .u8 x, .int .u16 cy, .int .u8 y] w fun q_ w' => q_ = .returned (.bool true) ∧ Below n_ W0 w' from hall _ _ (Nat.le_refl _) (Below.refl _ _)
  intro n_ W0 hn hB
  have HN := Lib.hid hn
  have BB := Lib.hid hB
  clear hn hB
  have K1 := Lib.hid C1
  have SC := Lib.hid C2
  have K3 := Lib.hid C3
  clear C1 C2 C3
  have AW := Lib.hid awake_c
  have hnot : ∀ (x : Bool) (w : World), (Op.unary .not (.bool x)).run Try.prog w = .ok (.bool (!x)) w := fun _ _ => rfl
  go_enter Try.func7, Try.ntmps7
  go_wp2_with fail
  with_reducible refine (AW.out _).mono ?_
  rintro q_ w1 ⟨rfl, hb⟩
  have B1 := Lib.hid (vian HN.out BB.out hb)
  clear hb 
  go_wp2_with fail
  with_reducible refine (K1.out _).mono ?_
  rintro q_ w2 ⟨rfl, hb⟩
  have B2 := Lib.hid (vian HN.out B1.out hb)
  clear hb B1
  have Q_ := own1 w2 (.cells #[.int .u8 x, .int .i64 160] 26)
  have B3 := Lib.hid (vian HN.out B2.out Q_)
  have P3 := Lib.hid (Has.new w2 #[.int .u8 x, .int .i64 160] 26)
  have LP := Lib.hid (show n_ ≤ w2.heap.size from Nat.le_trans HN.out B2.out.size)
  clear Q_
  go_upto_region 4 with (fail)
  generalize w2.alloc (.cells #[.int .u8 x, .int .i64 160] 26) = w3 at B3 P3 ⊢
  generalize w2.heap.size = pb at P3 LP  ⊢
  clear B2 
  go_wp2
  go_loopg [21, 9] N (fun g' i k w5 => ∃ (t : Nat), t ≤ N ∧ g' + t = N ∧ i = .int .i64 t ∧ k = .int .i64 ((if t < 160 then t else 160 : Nat) : Int) ∧ Below n_ W0 w5 ∧ Has w5 pb #[.int .u8 (atV x t).p, .int .i64 (atV x t).l])
  case atStart => exact ⟨0, by omega, by omega, rfl, rfl, B3.out, P3.out⟩
  case round =>
    obtain ⟨w5, hw5⟩ : ∃ q_, q_ = wr := ⟨_, rfl⟩
    subst hw5
    obtain ⟨t, ht, hg, rfl, rfl, hB, hP⟩ := hrel
    have TG := Lib.hid hg
    have B5 := Lib.hid hB
    have P5 := Lib.hid hP
    clear hg hB hP B3 P3
    by_cases hlt : t < N
    · have l1 : (t : Int) < N := by omega
      obtain ⟨f, n, hT⟩ := SC.out t
      have TC := Lib.hid hT
      clear hT
      obtain ⟨m, hm⟩ : ∃ q_, atV x t = q_ := ⟨_, rfl⟩
      obtain ⟨m', hm'⟩ : ∃ q_, atV x (t + 1) = q_ := ⟨_, rfl⟩
      rw [hm] at TC P5
      rw [hm'] at TC
      have HM := Lib.hid hm'
      clear hm hm'
      by_cases h1 : t < 160
      · skip
        have ed : decide (t < 160) = true := decide_eq_true h1
        rw [ed] at TC
        rw [if_pos h1]
        obtain ⟨hc, hf⟩ := P5.out.out
        go_wp2_with fail
        with_reducible refine (TC.out _).mono ?_
        rintro q_ u1 ⟨rfl, hb⟩
        clear hc hf
        have B1 := Lib.hid (vian HN.out B5.out hb)
        have P1 := Lib.hid (P5.out.below hb)
        clear hb B5 P5
        have B2 := Lib.hid (set2 B1.out pb LP.out (.int .u8 m'.p) (.int .i64 m'.l))
        have P2 := Lib.hid (P1.out.put2 (.int .u8 m'.p) (.int .i64 m'.l))
        obtain ⟨hc, hf⟩ := P1.out.out
        go_wp2
        clear hc hf
        go_roundg (N - (t + 1))
        · exact ⟨t + 1, by omega, by omega, by simp, by congr 1; split <;> omega, B2.out, HM.out ▸ P2.out⟩
        case measure => have := TG.out; omega
      · skip
        have ed : decide (t < 160) = false := decide_eq_false h1
        rw [ed] at TC
        rw [if_neg h1]
        obtain ⟨hc, hf⟩ := P5.out.out
        go_wp2_with fail
        with_reducible refine (TC.out _).mono ?_
        rintro q_ u1 ⟨rfl, hb⟩
        clear hc hf
        have B1 := Lib.hid (vian HN.out B5.out hb)
        have P1 := Lib.hid (P5.out.below hb)
        clear hb B5 P5
        have B2 := Lib.hid (set2 B1.out pb LP.out (.int .u8 m'.p) (.int .i64 m'.l))
        have P2 := Lib.hid (P1.out.put2 (.int .u8 m'.p) (.int .i64 m'.l))
        obtain ⟨hc, hf⟩ := P1.out.out
        go_wp2
        clear hc hf
        go_roundg (N - (t + 1))
        · exact ⟨t + 1, by omega, by omega, by simp, by congr 1; split <;> omega, B2.out, HM.out ▸ P2.out⟩
        case measure => have := TG.out; omega
    · have et : t = N := by omega
      subst et
      rw [show (#[.int .u8 (atV x t).p, .int .i64 (atV x t).l] : Array Value) = #[.int .u8 x, .int .i64 L] by rw [hL]; rfl] at P5
      have eL : L = 0 := by omega
      have k1 : (((if t < 160 then t else 160 : Nat)) : Int) = 160 := by rw [if_neg (by omega)]; rfl
      rw [k1]
      have k2 : ¬ (t : Int) < 160 := by omega
      have k3 : (160 : Int) - t ≤ 0 := by omega
      have k4 : ¬ (0 : Int) < 160 - t := by omega
      have k5 : (160 : Int) ≤ t := by omega
      clear hL hL2
      subst eL
      obtain ⟨hc0, hf0⟩ := P5.out.out
      go_wp2_with fail
      with_reducible refine (K3.out _).mono ?_
      rintro q_ w6 ⟨rfl, hb⟩
      clear hc0 hf0
      have B6 := Lib.hid (vian HN.out B5.out hb)
      have P6 := Lib.hid (P5.out.below hb)
      clear hb B5 P5
      obtain ⟨hcQ, hfQ⟩ := P6.out.out
      have Q_ := own1 w6 (.cells #[.int .u8 y, .int .i64 160] 26)
      have B7 := Lib.hid (vian HN.out B6.out Q_)
      have P7 := Lib.hid (P6.out.below Q_)
      have D7 := Lib.hid (Has.new w6 #[.int .u8 y, .int .i64 160] 26)
      have LD := Lib.hid (show n_ ≤ w6.heap.size from Nat.le_trans HN.out B6.out.size)
      clear Q_
      go_upto_region 14 with (fail)
      generalize w6.alloc (.cells #[.int .u8 y, .int .i64 160] 26) = w7 at B7 P7 D7 ⊢
      generalize w6.heap.size = db at D7 LD  ⊢
      clear B6 P6
      clear hcQ hfQ
      obtain ⟨hc, hf⟩ := P7.out.out
      obtain ⟨hc1, hf1⟩ := D7.out.out
      go_wp2
      all_goals (go_ret; exact ⟨rfl, B7.out⟩)
set_option maxHeartbeats 4000000 in
theorem left_b (x cy y : Int) (c0 : 0 ≤ cy) (c1 : cy < 65536) (N : Nat) (hN : N < 400) (e0 : cy.tmod 400 = N) (L : Int) (hL : (atV x N).l = L) (hL2 : L = ((160 - N : Nat) : Int)) (h : ¬ 160 ≤ N) (C1 : ∀ W, Calls Try.prog 9 #[.agg #[.int .u8 0, .int .i64 0], .int .u8 x] W fun q_ w' => q_ = .returned (.agg #[.int .u8 x, .int .i64 160]) ∧ Below W.heap.size W w') (C2 : (∀ t : Nat, ∃ f n, ∀ W, Calls Try.prog 11 #[.agg #[.int .u8 (atV x t).p, .int .i64 (atV x t).l]] W fun q_ w' => q_ = .returned (.tuple #[.agg #[.int .u8 (atV x (t + 1)).p, .int .i64 (atV x (t + 1)).l], .int .u16 f, .int .i64 n, .bool (decide (t < 160))]) ∧ Below W.heap.size W w')) (C3 : ∀ W, Calls Try.prog 9 #[.agg #[.int .u8 x, .int .i64 L], .int .u8 y] W fun q_ w' => q_ = .returned (.agg #[.int .u8 y, .int .i64 160]) ∧ Below W.heap.size W w') (w : World) : Calls Try.prog 7 #[.int .u8 x, .int .u16 cy, .int .u8 y] w fun q_ w' => q_ = .returned (.bool true) ∧ Below w.heap.size w w' := by
  suffices hall : ∀ (n_ : Nat) (W0 : World), n_ ≤ W0.heap.size → Below n_ W0 w → Calls Try.prog 7 #[.int .u8 x, .int .u16 cy, .int .u8 y] w fun q_ w' => q_ = .returned (.bool true) ∧ Below n_ W0 w' from hall _ _ (Nat.le_refl _) (Below.refl _ _)
  intro n_ W0 hn hB
  have HN := Lib.hid hn
  have BB := Lib.hid hB
  clear hn hB
  have K1 := Lib.hid C1
  have SC := Lib.hid C2
  have K3 := Lib.hid C3
  clear C1 C2 C3
  have AW := Lib.hid awake_c
  have hnot : ∀ (x : Bool) (w : World), (Op.unary .not (.bool x)).run Try.prog w = .ok (.bool (!x)) w := fun _ _ => rfl
  go_enter Try.func7, Try.ntmps7
  go_wp2_with fail
  with_reducible refine (AW.out _).mono ?_
  rintro q_ w1 ⟨rfl, hb⟩
  have B1 := Lib.hid (vian HN.out BB.out hb)
  clear hb 
  go_wp2_with fail
  with_reducible refine (K1.out _).mono ?_
  rintro q_ w2 ⟨rfl, hb⟩
  have B2 := Lib.hid (vian HN.out B1.out hb)
  clear hb B1
  have Q_ := own1 w2 (.cells #[.int .u8 x, .int .i64 160] 26)
  have B3 := Lib.hid (vian HN.out B2.out Q_)
  have P3 := Lib.hid (Has.new w2 #[.int .u8 x, .int .i64 160] 26)
  have LP := Lib.hid (show n_ ≤ w2.heap.size from Nat.le_trans HN.out B2.out.size)
  clear Q_
  go_upto_region 4 with (fail)
  generalize w2.alloc (.cells #[.int .u8 x, .int .i64 160] 26) = w3 at B3 P3 ⊢
  generalize w2.heap.size = pb at P3 LP  ⊢
  clear B2 
  go_wp2
  go_loopg [21, 9] N (fun g' i k w5 => ∃ (t : Nat), t ≤ N ∧ g' + t = N ∧ i = .int .i64 t ∧ k = .int .i64 ((if t < 160 then t else 160 : Nat) : Int) ∧ Below n_ W0 w5 ∧ Has w5 pb #[.int .u8 (atV x t).p, .int .i64 (atV x t).l])
  case atStart => exact ⟨0, by omega, by omega, rfl, rfl, B3.out, P3.out⟩
  case round =>
    obtain ⟨w5, hw5⟩ : ∃ q_, q_ = wr := ⟨_, rfl⟩
    subst hw5
    obtain ⟨t, ht, hg, rfl, rfl, hB, hP⟩ := hrel
    have TG := Lib.hid hg
    have B5 := Lib.hid hB
    have P5 := Lib.hid hP
    clear hg hB hP B3 P3
    by_cases hlt : t < N
    · have l1 : (t : Int) < N := by omega
      obtain ⟨f, n, hT⟩ := SC.out t
      have TC := Lib.hid hT
      clear hT
      obtain ⟨m, hm⟩ : ∃ q_, atV x t = q_ := ⟨_, rfl⟩
      obtain ⟨m', hm'⟩ : ∃ q_, atV x (t + 1) = q_ := ⟨_, rfl⟩
      rw [hm] at TC P5
      rw [hm'] at TC
      have HM := Lib.hid hm'
      clear hm hm'
      have h1 : t < 160 := by omega
      have ed : decide (t < 160) = true := decide_eq_true h1
      rw [ed] at TC
      rw [if_pos h1]
      obtain ⟨hc, hf⟩ := P5.out.out
      go_wp2_with fail
      with_reducible refine (TC.out _).mono ?_
      rintro q_ u1 ⟨rfl, hb⟩
      clear hc hf
      have B1 := Lib.hid (vian HN.out B5.out hb)
      have P1 := Lib.hid (P5.out.below hb)
      clear hb B5 P5
      have B2 := Lib.hid (set2 B1.out pb LP.out (.int .u8 m'.p) (.int .i64 m'.l))
      have P2 := Lib.hid (P1.out.put2 (.int .u8 m'.p) (.int .i64 m'.l))
      obtain ⟨hc, hf⟩ := P1.out.out
      go_wp2
      clear hc hf
      go_roundg (N - (t + 1))
      · exact ⟨t + 1, by omega, by omega, by simp, by congr 1; split <;> omega, B2.out, HM.out ▸ P2.out⟩
      case measure => have := TG.out; omega
    · have et : t = N := by omega
      subst et
      rw [show (#[.int .u8 (atV x t).p, .int .i64 (atV x t).l] : Array Value) = #[.int .u8 x, .int .i64 L] by rw [hL]; rfl] at P5
      have eL : (160 : Int) - t = L := by omega
      have k1 : (((if t < 160 then t else 160 : Nat)) : Int) = t := by rw [if_pos (by omega)]
      rw [k1]
      have k2 : (t : Int) < 160 := by omega
      have k3 : ¬ L ≤ 0 := by omega
      have k4 : 0 < L := by omega
      have k5 : ¬ (160 : Int) ≤ t := by omega
      have k6 : ¬ (160 : Int) < t := by omega
      clear hL hL2
      obtain ⟨hc0, hf0⟩ := P5.out.out
      go_wp2_with fail
      with_reducible refine (K3.out _).mono ?_
      rintro q_ w6 ⟨rfl, hb⟩
      clear hc0 hf0
      have B6 := Lib.hid (vian HN.out B5.out hb)
      have P6 := Lib.hid (P5.out.below hb)
      clear hb B5 P5
      obtain ⟨hcQ, hfQ⟩ := P6.out.out
      have Q_ := own1 w6 (.cells #[.int .u8 y, .int .i64 160] 26)
      have B7 := Lib.hid (vian HN.out B6.out Q_)
      have P7 := Lib.hid (P6.out.below Q_)
      have D7 := Lib.hid (Has.new w6 #[.int .u8 y, .int .i64 160] 26)
      have LD := Lib.hid (show n_ ≤ w6.heap.size from Nat.le_trans HN.out B6.out.size)
      clear Q_
      go_upto_region 14 with (fail)
      generalize w6.alloc (.cells #[.int .u8 y, .int .i64 160] 26) = w7 at B7 P7 D7 ⊢
      generalize w6.heap.size = db at D7 LD  ⊢
      clear B6 P6
      clear hcQ hfQ
      obtain ⟨hc, hf⟩ := P7.out.out
      obtain ⟨hc1, hf1⟩ := D7.out.out
      go_wp2
      all_goals (go_ret; exact ⟨rfl, B7.out⟩)
theorem left_walk (x cy y : Int) (x0 : 0 ≤ x) (x1 : x < 256) (c0 : 0 ≤ cy) (c1 : cy < 65536) (y0 : 0 ≤ y) (y1 : y < 256) (w : World) : Calls Try.prog 7 #[.int .u8 x, .int .u16 cy, .int .u8 y] w fun q_ w' => q_ = .returned (.bool true) ∧ Below w.heap.size w w' := by
  obtain ⟨N, hN⟩ := Int.eq_ofNat_of_zero_le (show 0 ≤ cy % 400 by omega)
  have e0 : cy.tmod 400 = N := (Int.tmod_eq_emod_of_nonneg c0).trans hN
  have k1 : ∀ W, Calls Try.prog 9 #[.agg #[.int .u8 0, .int .i64 0], .int .u8 x] W fun q_ w' => q_ = .returned (.agg #[.int .u8 x, .int .i64 160]) ∧ Below W.heap.size W w' := fun W => write_c 0 0 x x0 x1 W
  have k2 : ∀ t : Nat, ∃ f n, ∀ W, Calls Try.prog 11 #[.agg #[.int .u8 (atV x t).p, .int .i64 (atV x t).l]] W fun q_ w' => q_ = .returned (.tuple #[.agg #[.int .u8 (atV x (t + 1)).p, .int .i64 (atV x (t + 1)).l], .int .u16 f, .int .i64 n, .bool (decide (t < 160))]) ∧ Below W.heap.size W w' := fun t => ⟨_, _, fun W => tick_c (atV x t) (atV x (t + 1)) _ _ _ (at_ok x0 x1 t) (at_next x t) rfl rfl (by unfold busyV atV; dsimp only; rw [Bool.eq_iff_iff, decide_eq_true_iff, decide_eq_true_iff]; omega) W⟩
  obtain ⟨L, eL⟩ : ∃ q, (atV x N).l = q := ⟨_, rfl⟩
  have k3 : ∀ W, Calls Try.prog 9 #[.agg #[.int .u8 x, .int .i64 L], .int .u8 y] W fun q_ w' => q_ = .returned (.agg #[.int .u8 y, .int .i64 160]) ∧ Below W.heap.size W w' := fun W => write_c x L y y0 y1 W
  by_cases h : 160 ≤ N
  · exact left_a x cy y c0 c1 N (by omega) e0 L eL eL.symm h k1 k2 k3 w
  · exact left_b x cy y c0 c1 N (by omega) e0 L eL eL.symm h k1 k2 k3 w
end Go.Proofs.Ytnfjgofmfaadnaa
