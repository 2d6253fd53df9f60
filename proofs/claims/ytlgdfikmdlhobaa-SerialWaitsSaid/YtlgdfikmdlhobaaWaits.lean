/-
  The walk through SerialWaits: for every byte and number of cycles; no condition but that each number fits.
-/
import Derived.Test.YtlgdfikmdlhobaaAwk
import Derived.Deep.Cut
import Derived.Deep.LoopGhost
import Derived.Laws.StructEq
namespace Go.Proofs.Ytlgdfikmdlhobaa
open Go.ChangeShapes Go.WideShapes Go.ChangeAt Go.RowKit
set_option linter.unusedVariables false
set_option linter.unusedSimpArgs false
set_option maxRecDepth 100000
set_option maxHeartbeats 4000000 in
theorem waits_n (x y cy z : Int) (c l n s : Int) (c0 : 0 ≤ cy) (c1 : cy < 65536) (N : Nat) (hN : N < 2000) (e0 : cy.tmod 2000 = N) (C1 : ∀ W, Calls Try.prog 11 #[.agg #[.int .u8 0, .int .u8 0, .int .u8 0, .int .i64 0, .int .i64 0, .int .i64 0], .int .i64 0, .int .u8 x] W fun q_ w' => q_ = .returned (.agg #[.int .u8 x, .int .u8 0, .int .u8 0, .int .i64 0, .int .i64 0, .int .i64 0]) ∧ Below W.heap.size W w') (v : Int) (e1 : bits .and .u8 y 129 = v) (g1 : ¬ v = 129) (C2 : ∀ W, Calls Try.prog 11 #[.agg #[.int .u8 x, .int .u8 0, .int .u8 0, .int .i64 0, .int .i64 0, .int .i64 0], .int .i64 1, .int .u8 y] W fun q_ w' => q_ = .returned (.agg #[.int .u8 x, .int .u8 c, .int .u8 l, .int .i64 0, .int .i64 n, .int .i64 s]) ∧ Below W.heap.size W w') (C3 : ∀ W, Calls Try.prog 9 #[.agg #[.int .u8 x, .int .u8 c, .int .u8 l, .int .i64 0, .int .i64 n, .int .i64 s]] W fun q_ w' => q_ = .returned (.tuple #[.agg #[.int .u8 x, .int .u8 c, .int .u8 l, .int .i64 0, .int .i64 n, .int .i64 s], .bool false]) ∧ Below W.heap.size W w') (w : World) : Calls Try.prog 6 #[.int .u8 x, .int .u8 y, .int .u16 cy, .int .u8 z] w fun q_ w' => q_ = .returned (.bool true) ∧ Below w.heap.size w w' := by
  suffices hall : ∀ (n_ : Nat) (W0 : World), n_ ≤ W0.heap.size → Below n_ W0 w → Calls Try.prog 6 #[.int .u8 x, .int .u8 y, .int .u16 cy, .int .u8 z] w fun q_ w' => q_ = .returned (.bool true) ∧ Below n_ W0 w' from hall _ _ (Nat.le_refl _) (Below.refl _ _)
  intro n_ W0 hn hB
  have HN := Lib.hid hn
  have BB := Lib.hid hB
  clear hn hB
  have K1 := Lib.hid C1
  have K2 := Lib.hid C2
  have TK := Lib.hid C3
  clear C1 C2 C3
  have AW := Lib.hid awake_c
  have hN1 := hN
  have g2 : (v == 129) = false := by simpa using g1
  have hnot : ∀ (x : Bool) (w : World), (Op.unary .not (.bool x)).run Try.prog w = .ok (.bool (!x)) w := fun _ _ => rfl
  go_enter Try.func6, Try.ntmps6
  go_wp2_with fail
  with_reducible refine (AW.out _).mono ?_
  rintro q_ w1 ⟨rfl, hb⟩
  have B1 := Lib.hid (vian HN.out BB.out hb)
  clear hb 
  go_wp2_with fail
  with_reducible refine (K1.out _).mono ?_
  rintro q_ w2 ⟨rfl, hb⟩
  have B2 := Lib.hid (vian HN.out B1.out hb)
  clear hb B1
  go_wp2_with fail
  with_reducible refine (K2.out _).mono ?_
  rintro q_ w3 ⟨rfl, hb⟩
  have B3 := Lib.hid (vian HN.out B2.out hb)
  clear hb B2
  have Q_ := own1 w3 (.cells #[.int .u8 x, .int .u8 c, .int .u8 l, .int .i64 0, .int .i64 n, .int .i64 s] 25)
  have B4 := Lib.hid (vian HN.out B3.out Q_)
  have P4 := Lib.hid (Has.new w3 #[.int .u8 x, .int .u8 c, .int .u8 l, .int .i64 0, .int .i64 n, .int .i64 s] 25)
  have LP := Lib.hid (show n_ ≤ w3.heap.size from Nat.le_trans HN.out B3.out.size)
  clear Q_
  go_upto_region 4 with (fail)
  generalize w3.alloc (.cells #[.int .u8 x, .int .u8 c, .int .u8 l, .int .i64 0, .int .i64 n, .int .i64 s] 25) = w4 at B4 P4 ⊢
  generalize w3.heap.size = pb at P4 LP  ⊢
  clear B3 
  obtain ⟨hcQ, hfQ⟩ := P4.out.out
  have Q_ := own1 w4 (.cells #[.int .u8 x, .int .u8 c, .int .u8 l, .int .i64 0, .int .i64 n, .int .i64 s] 25)
  have B5 := Lib.hid (vian HN.out B4.out Q_)
  have P5 := Lib.hid (P4.out.below Q_)
  have Q5 := Lib.hid (Has.new w4 #[.int .u8 x, .int .u8 c, .int .u8 l, .int .i64 0, .int .i64 n, .int .i64 s] 25)
  have LQ := Lib.hid (show n_ ≤ w4.heap.size from Nat.le_trans HN.out B4.out.size)
  have NPQ := Lib.hid (show pb ≠ w4.heap.size from Nat.ne_of_lt P4.out.1)
  clear Q_
  go_upto_region 8 with (fail)
  generalize w4.alloc (.cells #[.int .u8 x, .int .u8 c, .int .u8 l, .int .i64 0, .int .i64 n, .int .i64 s] 25) = w5 at B5 P5 Q5 ⊢
  generalize w4.heap.size = qb at Q5 LQ NPQ ⊢
  clear B4 P4
  clear hcQ hfQ
  go_wp2
  go_loopg [32] N (fun g' i wr => ∃ (t : Nat), t ≤ N ∧ g' + t = N ∧ i = .int .i64 t ∧ Below n_ W0 wr ∧ Has wr pb #[.int .u8 x, .int .u8 c, .int .u8 l, .int .i64 0, .int .i64 n, .int .i64 s] ∧ Has wr qb #[.int .u8 x, .int .u8 c, .int .u8 l, .int .i64 0, .int .i64 n, .int .i64 s])
  case atStart => exact ⟨0, by omega, by omega, rfl, B5.out, P5.out, Q5.out⟩
  case round =>
    obtain ⟨t, ht, hg, rfl, hB, hP, hQ⟩ := hrel
    have TG := Lib.hid hg
    have B0 := Lib.hid hB
    have P0 := Lib.hid hP
    have Q0 := Lib.hid hQ
    clear hg hB hP hQ B5 P5 Q5
    by_cases hlt : t < N
    · have l1 : (t : Int) < N := by omega
      obtain ⟨hc, hf⟩ := Q0.out.out
      go_wp2_with fail
      with_reducible refine (TK.out _).mono ?_
      rintro q_ u1 ⟨rfl, hb⟩
      clear hc hf
      have B1 := Lib.hid (vian HN.out B0.out hb)
      have P1 := Lib.hid (P0.out.below hb)
      have Q1 := Lib.hid (Q0.out.below hb)
      clear hb B0 P0 Q0
      obtain ⟨hc, hf⟩ := Q1.out.out
      go_wp2
      clear hc hf
      go_roundg (gk - 1)
      · exact ⟨t + 1, by omega, by have := TG.out; omega, by simp, set6 B1.out qb LQ.out _ _ _ _ _ _, P1.out.far6 NPQ.out _ _ _ _ _ _, Q1.out.put6 _ _ _ _ _ _⟩
      case measure => have := TG.out; omega
    · have et : t = N := by omega
      subst et
      obtain ⟨hc, hf⟩ := P0.out.out
      obtain ⟨hc1, hf1⟩ := Q0.out.out
      go_wp2
      go_ret
      exact ⟨rfl, B0.out⟩
set_option maxHeartbeats 4000000 in
theorem waits_b (x y cy z : Int) (c l n s : Int) (c0 : 0 ≤ cy) (c1 : cy < 65536) (N : Nat) (hN : N < 2000) (e0 : cy.tmod 2000 = N) (C1 : ∀ W, Calls Try.prog 11 #[.agg #[.int .u8 0, .int .u8 0, .int .u8 0, .int .i64 0, .int .i64 0, .int .i64 0], .int .i64 0, .int .u8 x] W fun q_ w' => q_ = .returned (.agg #[.int .u8 x, .int .u8 0, .int .u8 0, .int .i64 0, .int .i64 0, .int .i64 0]) ∧ Below W.heap.size W w') (e1 : bits .and .u8 y 129 = 129) (v : Int) (e2 : bits .and .u8 z 128 = v) (C2 : ∀ W, Calls Try.prog 11 #[.agg #[.int .u8 x, .int .u8 0, .int .u8 0, .int .i64 0, .int .i64 0, .int .i64 0], .int .i64 1, .int .u8 y] W fun q_ w' => q_ = .returned (.agg #[.int .u8 x, .int .u8 129, .int .u8 x, .int .i64 8, .int .i64 0, .int .i64 1]) ∧ Below W.heap.size W w') (C3 : ∀ W, Calls Try.prog 9 #[.agg #[.int .u8 x, .int .u8 c, .int .u8 l, .int .i64 0, .int .i64 n, .int .i64 s]] W fun q_ w' => q_ = .returned (.tuple #[.agg #[.int .u8 x, .int .u8 c, .int .u8 l, .int .i64 0, .int .i64 n, .int .i64 s], .bool false]) ∧ Below W.heap.size W w') (C4 : ∀ W, Calls Try.prog 11 #[.agg #[.int .u8 x, .int .u8 129, .int .u8 x, .int .i64 8, .int .i64 0, .int .i64 1], .int .i64 1, .int .u8 v] W fun q_ w' => q_ = .returned (.agg #[.int .u8 x, .int .u8 c, .int .u8 l, .int .i64 0, .int .i64 n, .int .i64 s]) ∧ Below W.heap.size W w') (w : World) : Calls Try.prog 6 #[.int .u8 x, .int .u8 y, .int .u16 cy, .int .u8 z] w fun q_ w' => q_ = .returned (.bool true) ∧ Below w.heap.size w w' := by
  suffices hall : ∀ (n_ : Nat) (W0 : World), n_ ≤ W0.heap.size → Below n_ W0 w → Calls Try.prog 6 #[.int .u8 x, .int .u8 y, .int .u16 cy, .int .u8 z] w fun q_ w' => q_ = .returned (.bool true) ∧ Below n_ W0 w' from hall _ _ (Nat.le_refl _) (Below.refl _ _)
  intro n_ W0 hn hB
  have HN := Lib.hid hn
  have BB := Lib.hid hB
  clear hn hB
  have K1 := Lib.hid C1
  have K2 := Lib.hid C2
  have TK := Lib.hid C3
  have K3 := Lib.hid C4
  clear C1 C2 C3 C4
  have AW := Lib.hid awake_c
  have hN1 := hN
  have hnot : ∀ (x : Bool) (w : World), (Op.unary .not (.bool x)).run Try.prog w = .ok (.bool (!x)) w := fun _ _ => rfl
  go_enter Try.func6, Try.ntmps6
  go_wp2_with fail
  with_reducible refine (AW.out _).mono ?_
  rintro q_ w1 ⟨rfl, hb⟩
  have B1 := Lib.hid (vian HN.out BB.out hb)
  clear hb 
  go_wp2_with fail
  with_reducible refine (K1.out _).mono ?_
  rintro q_ w2 ⟨rfl, hb⟩
  have B2 := Lib.hid (vian HN.out B1.out hb)
  clear hb B1
  go_wp2_with fail
  with_reducible refine (K2.out _).mono ?_
  rintro q_ w3 ⟨rfl, hb⟩
  have B3 := Lib.hid (vian HN.out B2.out hb)
  clear hb B2
  have Q_ := own1 w3 (.cells #[.int .u8 x, .int .u8 129, .int .u8 x, .int .i64 8, .int .i64 0, .int .i64 1] 25)
  have B4 := Lib.hid (vian HN.out B3.out Q_)
  have P4 := Lib.hid (Has.new w3 #[.int .u8 x, .int .u8 129, .int .u8 x, .int .i64 8, .int .i64 0, .int .i64 1] 25)
  have LP := Lib.hid (show n_ ≤ w3.heap.size from Nat.le_trans HN.out B3.out.size)
  clear Q_
  go_upto_region 4 with (fail)
  generalize w3.alloc (.cells #[.int .u8 x, .int .u8 129, .int .u8 x, .int .i64 8, .int .i64 0, .int .i64 1] 25) = w4 at B4 P4 ⊢
  generalize w3.heap.size = pb at P4 LP  ⊢
  clear B3 
  obtain ⟨hc0, hf0⟩ := P4.out.out
  go_wp2_with fail
  with_reducible refine (K3.out _).mono ?_
  rintro q_ w5 ⟨rfl, hb⟩
  clear hc0 hf0
  have B5 := Lib.hid (vian HN.out B4.out hb)
  have P5 := Lib.hid (P4.out.below hb)
  clear hb B4 P4
  have P6 := Lib.hid (P5.out.put6 (.int .u8 x) (.int .u8 c) (.int .u8 l) (.int .i64 0) (.int .i64 n) (.int .i64 s))
  have B6 := Lib.hid (set6 B5.out pb LP.out (.int .u8 x) (.int .u8 c) (.int .u8 l) (.int .i64 0) (.int .i64 n) (.int .i64 s))
  obtain ⟨hc, hf⟩ := P5.out.out
  go_upto_region 7 with (fail)
  clear hc hf P5 B5
  generalize (World.setCell (World.setCell (World.setCell (World.setCell (World.setCell (World.setCell w5 ⟨pb, 0, none⟩ (.int .u8 x)) ⟨pb, 1, none⟩ (.int .u8 c)) ⟨pb, 2, none⟩ (.int .u8 l)) ⟨pb, 3, none⟩ (.int .i64 0)) ⟨pb, 4, none⟩ (.int .i64 n)) ⟨pb, 5, none⟩ (.int .i64 s)) = w6 at B6 P6 ⊢
  obtain ⟨hcQ, hfQ⟩ := P6.out.out
  have Q_ := own1 w6 (.cells #[.int .u8 x, .int .u8 c, .int .u8 l, .int .i64 0, .int .i64 n, .int .i64 s] 25)
  have B7 := Lib.hid (vian HN.out B6.out Q_)
  have P7 := Lib.hid (P6.out.below Q_)
  have Q7 := Lib.hid (Has.new w6 #[.int .u8 x, .int .u8 c, .int .u8 l, .int .i64 0, .int .i64 n, .int .i64 s] 25)
  have LQ := Lib.hid (show n_ ≤ w6.heap.size from Nat.le_trans HN.out B6.out.size)
  have NPQ := Lib.hid (show pb ≠ w6.heap.size from Nat.ne_of_lt P6.out.1)
  clear Q_
  go_upto_region 8 with (fail)
  generalize w6.alloc (.cells #[.int .u8 x, .int .u8 c, .int .u8 l, .int .i64 0, .int .i64 n, .int .i64 s] 25) = w7 at B7 P7 Q7 ⊢
  generalize w6.heap.size = qb at Q7 LQ NPQ ⊢
  clear B6 P6
  clear hcQ hfQ
  go_wp2
  go_loopg [32] N (fun g' i wr => ∃ (t : Nat), t ≤ N ∧ g' + t = N ∧ i = .int .i64 t ∧ Below n_ W0 wr ∧ Has wr pb #[.int .u8 x, .int .u8 c, .int .u8 l, .int .i64 0, .int .i64 n, .int .i64 s] ∧ Has wr qb #[.int .u8 x, .int .u8 c, .int .u8 l, .int .i64 0, .int .i64 n, .int .i64 s])
  case atStart => exact ⟨0, by omega, by omega, rfl, B7.out, P7.out, Q7.out⟩
  case round =>
    obtain ⟨t, ht, hg, rfl, hB, hP, hQ⟩ := hrel
    have TG := Lib.hid hg
    have B0 := Lib.hid hB
    have P0 := Lib.hid hP
    have Q0 := Lib.hid hQ
    clear hg hB hP hQ B7 P7 Q7
    by_cases hlt : t < N
    · have l1 : (t : Int) < N := by omega
      obtain ⟨hc, hf⟩ := Q0.out.out
      go_wp2_with fail
      with_reducible refine (TK.out _).mono ?_
      rintro q_ u1 ⟨rfl, hb⟩
      clear hc hf
      have B1 := Lib.hid (vian HN.out B0.out hb)
      have P1 := Lib.hid (P0.out.below hb)
      have Q1 := Lib.hid (Q0.out.below hb)
      clear hb B0 P0 Q0
      obtain ⟨hc, hf⟩ := Q1.out.out
      go_wp2
      clear hc hf
      go_roundg (gk - 1)
      · exact ⟨t + 1, by omega, by have := TG.out; omega, by simp, set6 B1.out qb LQ.out _ _ _ _ _ _, P1.out.far6 NPQ.out _ _ _ _ _ _, Q1.out.put6 _ _ _ _ _ _⟩
      case measure => have := TG.out; omega
    · have et : t = N := by omega
      subst et
      obtain ⟨hc, hf⟩ := P0.out.out
      obtain ⟨hc1, hf1⟩ := Q0.out.out
      go_wp2
      go_ret
      exact ⟨rfl, B0.out⟩
theorem waits_walk (x y cy z : Int) (x0 : 0 ≤ x) (x1 : x < 256) (y0 : 0 ≤ y) (y1 : y < 256) (c0 : 0 ≤ cy) (c1 : cy < 65536) (z0 : 0 ≤ z) (z1 : z < 256) (w : World) : Calls Try.prog 6 #[.int .u8 x, .int .u8 y, .int .u16 cy, .int .u8 z] w fun q_ w' => q_ = .returned (.bool true) ∧ Below w.heap.size w w' := by
  obtain ⟨N, hN⟩ := Int.eq_ofNat_of_zero_le (show 0 ≤ cy % 2000 by omega)
  have e0 : cy.tmod 2000 = N := (Int.tmod_eq_emod_of_nonneg c0).trans hN
  have k1 : ∀ W, Calls Try.prog 11 #[.agg #[.int .u8 0, .int .u8 0, .int .u8 0, .int .i64 0, .int .i64 0, .int .i64 0], .int .i64 0, .int .u8 x] W fun q_ w' => q_ = .returned (.agg #[.int .u8 x, .int .u8 0, .int .u8 0, .int .i64 0, .int .i64 0, .int .i64 0]) ∧ Below W.heap.size W w' := fun W => write_c zeroV ⟨x, 0, 0, 0, 0, 0⟩ 0 x zero_ok x0 x1 rfl W
  have ok1 : PV.ok ⟨x, 0, 0, 0, 0, 0⟩ := a_ok _ _ _ _ _ _ (by omega)
  by_cases g : begins y
  · have e1 : bits .and .u8 y 129 = 129 := (and129 y y0 y1).trans (by have := g.1; have := g.2; omega)
    have ok2 : PV.ok ⟨x, 129, x, 8, 0, 1⟩ := a_ok _ _ _ _ _ _ (by omega)
    have q : y / 128 * 128 + y % 2 = 129 := by have := g.1; have := g.2; omega
    have ok3 : PV.ok ⟨x, z / 128 * 128, x, 0, 0, 1⟩ := a_ok _ _ _ _ _ _ (by omega)
    have ti := tick_idle (p := ⟨x, z / 128 * 128, x, 0, 0, 1⟩) (by show (0 : Int) ≤ 0; decide)
    refine waits_b x y cy z (z / 128 * 128) x 0 1 c0 c1 N (by omega) e0 k1 e1 _ (and128 z z0 z1) ?_ ?_ ?_ w
    · exact fun W => write_c _ ⟨x, 129, x, 8, 0, 1⟩ 1 y ok1 y0 y1 ((wr_begins _ y g).trans (by rw [q]; rfl)) W
    · exact fun W => tick_c _ ⟨x, z / 128 * 128, x, 0, 0, 1⟩ false ok3 ti.1 ti.2 W
    · refine fun W => write_c _ ⟨x, z / 128 * 128, x, 0, 0, 1⟩ 1 _ ok2 (by omega) (by omega) ((wr_not _ _ (fun h => ?_)).trans ?_) W
      · have := h.2; omega
      · have r : z / 128 * 128 / 128 * 128 + z / 128 * 128 % 2 = z / 128 * 128 := by omega
        rw [r]
  · have q : ¬ y / 128 * 128 + y % 2 = 129 := fun h => g (show y / 128 = 1 ∧ y % 2 = 1 by omega)
    have ok3 : PV.ok ⟨x, y / 128 * 128 + y % 2, 0, 0, 0, 0⟩ := a_ok _ _ _ _ _ _ (by omega)
    have ti := tick_idle (p := ⟨x, y / 128 * 128 + y % 2, 0, 0, 0, 0⟩) (by show (0 : Int) ≤ 0; decide)
    refine waits_n x y cy z (y / 128 * 128 + y % 2) 0 0 0 c0 c1 N (by omega) e0 k1 _ (and129 y y0 y1) q ?_ ?_ w
    · exact fun W => write_c _ ⟨x, y / 128 * 128 + y % 2, 0, 0, 0, 0⟩ 1 y ok1 y0 y1 (wr_not _ y g) W
    · exact fun W => tick_c _ ⟨x, y / 128 * 128 + y % 2, 0, 0, 0, 0⟩ false ok3 ti.1 ti.2 W
end Go.Proofs.Ytlgdfikmdlhobaa
