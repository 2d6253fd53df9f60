/-
  The walk through SerialSends: for every byte and number; no condition but that each number fits.
-/
import Derived.Test.YtlgdfikmdlhobaaAwk
import Derived.Deep.Cut
import Derived.Deep.LoopGhost
import Derived.BigQuiet
import Derived.Laws.StructEq
namespace Go.Proofs.Ytlgdfikmdlhobaa
open Go.ChangeShapes Go.WideShapes Go.ChangeAt Go.RowKit
set_option linter.unusedVariables false
set_option linter.unusedSimpArgs false
set_option maxRecDepth 100000
theorem or_lo (X : Nat) (hX : X < 256) (k : Nat) (hk : k ≤ 8) : bits .or .i64 (wrap64 ((X : Int) * 2 ^ k)) (wrap64 (wrap64 (2 ^ k) - 1)) % 256 = (((X * 2 ^ k + (2 ^ k - 1)) % 256 : Nat) : Int) := by
  have hh : ∀ k : Fin 9, ∀ n : Fin 256, bits .or .i64 (wrap64 (((n.val : Nat) : Int) * 2 ^ k.val)) (wrap64 (wrap64 (2 ^ k.val) - 1)) % 256 = (((n.val * 2 ^ k.val + (2 ^ k.val - 1)) % 256 : Nat) : Int) := by decide +kernel
  exact hh ⟨k, by omega⟩ ⟨X, hX⟩
set_option maxHeartbeats 4000000 in
theorem sends_some (X : Nat) (hX : X < 256) (cy : Int) (c0 : 0 ≤ cy) (c1 : cy < 65536) (N : Nat) (hN : N < 300) (e0 : cy.tmod 300 = N) (C1 : ∀ W, Calls Try.prog 11 #[.agg #[.int .u8 0, .int .u8 0, .int .u8 0, .int .i64 0, .int .i64 0, .int .i64 0], .int .i64 0, .int .u8 (X : Int)] W fun q_ w' => q_ = .returned (.agg #[.int .u8 X, .int .u8 0, .int .u8 0, .int .i64 0, .int .i64 0, .int .i64 0]) ∧ Below W.heap.size W w') (C2 : ∀ W, Calls Try.prog 11 #[.agg #[.int .u8 X, .int .u8 0, .int .u8 0, .int .i64 0, .int .i64 0, .int .i64 0], .int .i64 1, .int .u8 129] W fun q_ w' => q_ = .returned (.agg #[.int .u8 (sentV X 0).d, .int .u8 (sentV X 0).c, .int .u8 (sentV X 0).l, .int .i64 (sentV X 0).b, .int .i64 (sentV X 0).n, .int .i64 (sentV X 0).s]) ∧ Below W.heap.size W w') (C3 : (∀ t : Nat, t < 1024 → ∀ W, Calls Try.prog 9 #[.agg #[.int .u8 (sentV X t).d, .int .u8 (sentV X t).c, .int .u8 (sentV X t).l, .int .i64 (sentV X t).b, .int .i64 (sentV X t).n, .int .i64 (sentV X t).s]] W fun q_ w' => q_ = .returned (.tuple #[.agg #[.int .u8 (sentV X (t + 1)).d, .int .u8 (sentV X (t + 1)).c, .int .u8 (sentV X (t + 1)).l, .int .i64 (sentV X (t + 1)).b, .int .i64 (sentV X (t + 1)).n, .int .i64 (sentV X (t + 1)).s], .bool (decide (t = 1023))]) ∧ Below W.heap.size W w')) (C4 : ∀ W, Calls Try.prog 9 #[.agg #[.int .u8 255, .int .u8 1, .int .u8 X, .int .i64 0, .int .i64 0, .int .i64 1]] W fun q_ w' => q_ = .returned (.tuple #[.agg #[.int .u8 255, .int .u8 1, .int .u8 X, .int .i64 0, .int .i64 0, .int .i64 1], .bool false]) ∧ Below W.heap.size W w') (C5 : ∀ W, Calls Try.prog 13 #[.agg #[.int .u8 255, .int .u8 1, .int .u8 X, .int .i64 0, .int .i64 0, .int .i64 1], .int .i64 1] W fun q_ w' => q_ = .returned (.int .u8 127) ∧ Below W.heap.size W w') (w : World) : Calls Try.prog 5 #[.int .u8 (X : Int), .int .u16 cy] w fun q_ w' => q_ = .returned (.bool true) ∧ Below w.heap.size w w' := by
  suffices hall : ∀ (n_ : Nat) (W0 : World), n_ ≤ W0.heap.size → Below n_ W0 w → Calls Try.prog 5 #[.int .u8 (X : Int), .int .u16 cy] w fun q_ w' => q_ = .returned (.bool true) ∧ Below n_ W0 w' from hall _ _ (Nat.le_refl _) (Below.refl _ _)
  intro n_ W0 hn hB
  have HN := Lib.hid hn
  have BB := Lib.hid hB
  clear hn hB
  have K1 := Lib.hid C1
  have K2 := Lib.hid C2
  have SC := Lib.hid C3
  have TK := Lib.hid C4
  have RD := Lib.hid C5
  clear C1 C2 C3 C4 C5
  have AW := Lib.hid awake_c
  have hnot : ∀ (x : Bool) (w : World), (Op.unary .not (.bool x)).run Try.prog w = .ok (.bool (!x)) w := fun _ _ => rfl
  go_enter Try.func5, Try.ntmps5
  go_wp2_with fail
  with_reducible refine (AW.out _).mono ?_
  rintro q_ w1 ⟨rfl, hb⟩
  have B1 := Lib.hid (vian HN.out BB.out hb)
  clear hb 
  go_wp2_with fail
  with_reducible refine (K1.out _).mono ?_
  rintro q_ w2 ⟨rfl, hb⟩
  have B2 := Lib.hid (vian HN.out B1.out hb)
  clear hb B1
  go_wp2_with fail
  with_reducible refine (K2.out _).mono ?_
  rintro q_ w3 ⟨rfl, hb⟩
  have B3 := Lib.hid (vian HN.out B2.out hb)
  clear hb B2
  have Q_ := own1 w3 (.cells #[.int .u8 (sentV X 0).d, .int .u8 (sentV X 0).c, .int .u8 (sentV X 0).l, .int .i64 (sentV X 0).b, .int .i64 (sentV X 0).n, .int .i64 (sentV X 0).s] 25)
  have B4 := Lib.hid (vian HN.out B3.out Q_)
  have P4 := Lib.hid (Has.new w3 #[.int .u8 (sentV X 0).d, .int .u8 (sentV X 0).c, .int .u8 (sentV X 0).l, .int .i64 (sentV X 0).b, .int .i64 (sentV X 0).n, .int .i64 (sentV X 0).s] 25)
  have LP := Lib.hid (show n_ ≤ w3.heap.size from Nat.le_trans HN.out B3.out.size)
  clear Q_
  go_upto_region 4 with (fail)
  generalize w3.alloc (.cells #[.int .u8 (sentV X 0).d, .int .u8 (sentV X 0).c, .int .u8 (sentV X 0).l, .int .i64 (sentV X 0).b, .int .i64 (sentV X 0).n, .int .i64 (sentV X 0).s] 25) = w4 at B4 P4 ⊢
  generalize w3.heap.size = pb at P4 LP  ⊢
  clear B3 
  go_wp2
  go_loopg [17] 1024 (fun g' i w5 => ∃ (t : Nat), t ≤ 1024 ∧ g' + t = 1024 ∧ i = .int .i64 t ∧ Below n_ W0 w5 ∧ Has w5 pb #[.int .u8 (sentV X t).d, .int .u8 (sentV X t).c, .int .u8 (sentV X t).l, .int .i64 (sentV X t).b, .int .i64 (sentV X t).n, .int .i64 (sentV X t).s])
  case atStart => exact ⟨0, by omega, by omega, rfl, B4.out, P4.out⟩
  case round =>
    obtain ⟨w5, hw5⟩ : ∃ q_, q_ = wr := ⟨_, rfl⟩
    subst hw5
    obtain ⟨t, ht, hg, rfl, hB, hP⟩ := hrel
    have TG := Lib.hid hg
    have B5 := Lib.hid hB
    have P5 := Lib.hid hP
    clear hg hB hP B4 P4
    by_cases hlt : t < 1024
    · have l1 : (t : Int) < 1024 := by omega
      have TC := Lib.hid (SC.out t hlt)
      obtain ⟨ir, hir⟩ : ∃ q_, decide (t = 1023) = q_ := ⟨_, rfl⟩
      have e1 : ((t : Int) == 1023) = ir := by
        rw [← hir, Bool.eq_iff_iff, beq_iff_eq, decide_eq_true_iff]; omega
      obtain ⟨k, hk⟩ : ∃ k : Nat, (t + 1) / 128 = k := ⟨_, rfl⟩
      have k8 : k ≤ 8 := by omega
      have e2 : ((t : Int) + 1).tdiv 128 = k := by rw [Int.tdiv_eq_ediv_of_nonneg (by omega)]; omega
      have ed : (sentV X (t + 1)).d = (((X * 2 ^ k + (2 ^ k - 1)) % 256 : Nat) : Int) := by rw [← hk]; rfl
      have e3 := (or_lo X hX k k8).trans ed.symm
      rw [hir] at TC
      obtain ⟨m, hm⟩ : ∃ q_, sentV X t = q_ := ⟨_, rfl⟩
      obtain ⟨m', hm'⟩ : ∃ q_, sentV X (t + 1) = q_ := ⟨_, rfl⟩
      rw [hm] at TC P5
      rw [hm'] at TC e3
      have HM := Lib.hid hm'
      clear hir hk hm ed hm'
      obtain ⟨hc, hf⟩ := P5.out.out
      go_wp2_with fail
      with_reducible refine (TC.out _).mono ?_
      rintro q_ u1 ⟨rfl, hb⟩
      clear hc hf
      have B1 := Lib.hid (vian HN.out B5.out hb)
      have P1 := Lib.hid (P5.out.below hb)
      clear hb B5 P5
      have B2 := Lib.hid (set6 B1.out pb LP.out (.int .u8 m'.d) (.int .u8 m'.c) (.int .u8 m'.l) (.int .i64 m'.b) (.int .i64 m'.n) (.int .i64 m'.s))
      have P2 := Lib.hid (P1.out.put6 (.int .u8 m'.d) (.int .u8 m'.c) (.int .u8 m'.l) (.int .i64 m'.b) (.int .i64 m'.n) (.int .i64 m'.s))
      obtain ⟨hc, hf⟩ := P1.out.out
      go_upto_region 12 with (fail)
      clear hc hf B1 P1
      generalize (World.setCell (World.setCell (World.setCell (World.setCell (World.setCell (World.setCell u1 ⟨pb, 0, none⟩ (.int .u8 m'.d)) ⟨pb, 1, none⟩ (.int .u8 m'.c)) ⟨pb, 2, none⟩ (.int .u8 m'.l)) ⟨pb, 3, none⟩ (.int .i64 m'.b)) ⟨pb, 4, none⟩ (.int .i64 m'.n)) ⟨pb, 5, none⟩ (.int .i64 m'.s)) = u2 at B2 P2 ⊢
      obtain ⟨hc, hf⟩ := P2.out.out
      go_quiet (fail)
      clear hc hf
      go_wp2
      go_roundg (gk - 1)
      · exact ⟨t + 1, by omega, by have := TG.out; omega, by simp, below_drewN B2.out _, by rw [HM.out]; exact P2.out.below (below_drewN (Below.refl _ _) _)⟩
      case measure => have := TG.out; omega
    · have et : t = 1024 := by omega
      subst et
      have P6 := Lib.hid (show Has w5 pb #[.int .u8 255, .int .u8 1, .int .u8 X, .int .i64 0, .int .i64 0, .int .i64 1] from by have h := P5.out; rw [sent_last X hX] at h; exact h)
      clear P5
      have P5 := P6
      clear P6 TG SC
      obtain ⟨hcQ, hfQ⟩ := P5.out.out
      have Q_ := own1 w5 (.cells #[.int .u8 255, .int .u8 1, .int .u8 X, .int .i64 0, .int .i64 0, .int .i64 1] 25)
      have B6 := Lib.hid (vian HN.out B5.out Q_)
      have P6 := Lib.hid (P5.out.below Q_)
      have Q6 := Lib.hid (Has.new w5 #[.int .u8 255, .int .u8 1, .int .u8 X, .int .i64 0, .int .i64 0, .int .i64 1] 25)
      have LQ := Lib.hid (show n_ ≤ w5.heap.size from Nat.le_trans HN.out B5.out.size)
      have NPQ := Lib.hid (show pb ≠ w5.heap.size from Nat.ne_of_lt P5.out.1)
      clear Q_
      go_upto_region 16 with (fail)
      generalize w5.alloc (.cells #[.int .u8 255, .int .u8 1, .int .u8 X, .int .i64 0, .int .i64 0, .int .i64 1] 25) = w6 at B6 P6 Q6 ⊢
      generalize w5.heap.size = qb at Q6 LQ NPQ ⊢
      clear B5 P5
      clear hcQ hfQ
      go_wp2
      go_loopg [49] N (fun g' i w7 => ∃ (t : Nat), t ≤ N ∧ g' + t = N ∧ i = .int .i64 t ∧ Below n_ W0 w7 ∧ Has w7 pb #[.int .u8 255, .int .u8 1, .int .u8 X, .int .i64 0, .int .i64 0, .int .i64 1] ∧ Has w7 qb #[.int .u8 255, .int .u8 1, .int .u8 X, .int .i64 0, .int .i64 0, .int .i64 1])
      case atStart => exact ⟨0, by omega, by omega, rfl, B6.out, P6.out, Q6.out⟩
      case round =>
        obtain ⟨t, ht, hg, rfl, hB, hP, hQ⟩ := hrel
        have TG := Lib.hid hg
        have B7 := Lib.hid hB
        have P7 := Lib.hid hP
        have Q7 := Lib.hid hQ
        clear hg hB hP hQ B6 P6 Q6
        by_cases hlt : t < N
        · have l1 : (t : Int) < N := by omega
          obtain ⟨hc, hf⟩ := Q7.out.out
          go_wp2_with fail
          with_reducible refine (TK.out _).mono ?_
          rintro q_ u1 ⟨rfl, hb⟩
          clear hc hf
          have B1 := Lib.hid (vian HN.out B7.out hb)
          have P1 := Lib.hid (P7.out.below hb)
          have Q1 := Lib.hid (Q7.out.below hb)
          clear hb B7 P7 Q7
          obtain ⟨hc, hf⟩ := Q1.out.out
          go_wp2
          clear hc hf
          go_roundg (gk - 1)
          · exact ⟨t + 1, by omega, by have := TG.out; omega, by simp, set6 B1.out qb LQ.out _ _ _ _ _ _, P1.out.far6 NPQ.out _ _ _ _ _ _, Q1.out.put6 _ _ _ _ _ _⟩
          case measure => have := TG.out; omega
        · have et : t = N := by omega
          subst et
          obtain ⟨hc, hf⟩ := P7.out.out
          obtain ⟨hc1, hf1⟩ := Q7.out.out
          go_wp2_with fail
          with_reducible refine (RD.out _).mono ?_
          rintro q_ u1 ⟨rfl, hb⟩
          clear hc hf hc1 hf1
          have B8 := Lib.hid (vian HN.out B7.out hb)
          clear hb
          go_wp2
          go_ret
          exact ⟨rfl, B8.out⟩
theorem sends_walk (x cy : Int) (x0 : 0 ≤ x) (x1 : x < 256) (c0 : 0 ≤ cy) (c1 : cy < 65536) (w : World) : Calls Try.prog 5 #[.int .u8 x, .int .u16 cy] w fun q_ w' => q_ = .returned (.bool true) ∧ Below w.heap.size w w' := by
  obtain ⟨X, rfl⟩ := Int.eq_ofNat_of_zero_le x0
  have hX : X < 256 := by omega
  obtain ⟨N, hN⟩ := Int.eq_ofNat_of_zero_le (show 0 ≤ cy % 300 by omega)
  have e0 : cy.tmod 300 = N := (Int.tmod_eq_emod_of_nonneg c0).trans hN
  have ok1 : PV.ok ⟨X, 0, 0, 0, 0, 0⟩ := a_ok _ _ _ _ _ _ (by omega)
  have okl : PV.ok ⟨255, 1, X, 0, 0, 1⟩ := a_ok _ _ _ _ _ _ (by omega)
  have ti := tick_idle (p := ⟨255, 1, X, 0, 0, 1⟩) (by show (0 : Int) ≤ 0; decide)
  have hs : wrV ⟨X, 0, 0, 0, 0, 0⟩ 1 129 = sentV X 0 := start_sent X hX
  have oks : ∀ t, t ≤ 1024 → (sentV X t).ok := by
    intro t
    induction t with
    | zero => intro _; rw [← hs]; exact wr_ok ok1 1 129 (by decide) (by decide)
    | succ t ih => intro h; rw [← (sent_next X t (by omega)).1]; exact tick_ok (ih (by omega))
  refine sends_some X hX cy c0 c1 N (by omega) e0 ?_ ?_ ?_ ?_ ?_ w
  · exact fun W => write_c zeroV ⟨X, 0, 0, 0, 0, 0⟩ 0 X zero_ok x0 x1 rfl W
  · exact fun W => write_c _ _ 1 129 ok1 (by decide) (by decide) hs W
  · exact fun t h W => tick_c _ _ _ (oks t (by omega)) (sent_next X t h).1 (sent_next X t h).2 W
  · exact fun W => tick_c _ ⟨255, 1, X, 0, 0, 1⟩ false okl ti.1 ti.2 W
  · exact fun W => read_c _ 1 127 okl (by simp [readV]) W
end Go.Proofs.Ytlgdfikmdlhobaa
