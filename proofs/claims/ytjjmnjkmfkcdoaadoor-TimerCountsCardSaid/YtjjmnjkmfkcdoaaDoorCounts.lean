/-
  The walk through TimerCounts: for every numbers; no condition but that the table lies as it is laid.
-/
import Derived.Test.YtjjmnjkmfkcdoaaDoorOpn
import Derived.Test.YtjjmnjkmfkcdoaaDoorAwk
import Derived.Test.YtjjmnjkmfkcdoaaDoorStep
import Derived.Deep.Cut
import Derived.Deep.LoopGhost
import Derived.BigQuiet
namespace Go.Proofs.YtjjmnjkmfkcdoaaDoor
open Go.ChangeShapes Go.WideShapes Go.ChangeAt Go.RowKit
set_option linter.unusedVariables false
set_option linter.unusedSimpArgs false
set_option maxRecDepth 100000
def clV (v : TV) : Array Value := #[.int .u16 v.c, .int .u8 v.a, .int .u8 v.m, .int .u8 v.k, .bool v.o]
set_option maxHeartbeats 8000000 in
theorem cnt_00 (n0 n1 n2 : Nat) (b0 : n0 < 65536) (b1 : n1 < 256) (b2 : n2 < 65536) (g1 : n1 % 4 = 0) (g2 : n1 / 4 % 2 = 0) (w : World) (hglob : Glob w) : Calls Tryd.prog 4 #[.int .u16 n0, .int .u8 n1, .int .u16 n2] w fun q_ w' => q_ = .returned (.bool true) ∧ Below w.heap.size w w' := by
  suffices hall : ∀ (n_ : Nat) (W0 : World), n_ ≤ W0.heap.size → Below n_ W0 w → Tab n_ W0 → Calls Tryd.prog 4 #[.int .u16 n0, .int .u8 n1, .int .u16 n2] w fun q_ w' => q_ = .returned (.bool true) ∧ Below n_ W0 w' from hall _ _ (Nat.le_refl _) (Below.refl _ _) ⟨hglob.1, hglob⟩
  intro n_ W0 hn hB hT
  have HN := Lib.hid hn
  have BB := Lib.hid hB
  have TT := Lib.hid hT
  clear hn hB hT hglob
  have AW := Lib.hid awake_c
  have hnot : ∀ (x : Bool) (w : World), (Op.unary .not (.bool x)).run Tryd.prog w = .ok (.bool (!x)) w := fun _ _ => rfl
  obtain ⟨k, hk⟩ : ∃ k : Nat, k = n2 % 4000 := ⟨_, rfl⟩
  have hkw : (n2 : Int).tmod 4000 = (k : Int) := by rw [Int.tmod_eq_emod_of_nonneg (by omega)]; omega
  have hk2 : k < 4000 := by omega
  obtain ⟨f0, hf0⟩ : ∃ k : Nat, k = n0 / 4 := ⟨_, rfl⟩
  have hf2 : f0 < 16384 := by omega
  obtain ⟨c0, hc0⟩ : ∃ c : Int, c = 4 * (f0 : Int) % 65536 := ⟨_, rfl⟩
  have e1 : bits .andNot .u16 (n0 : Int) 3 = c0 := (w3not n0 (by omega) (by omega)).trans (by omega)
  obtain ⟨tc, htc⟩ : ∃ c : Int, c = (n1 : Int) % 8 := ⟨_, rfl⟩
  have e2 : bits .and .u8 (n1 : Int) 7 = tc := (and7 n1 (by omega) (by omega)).trans htc.symm
  have e3 : bits .and .u8 (n1 : Int) 3 = 0 := (and3 n1 (by omega) (by omega)).trans (by omega)
  have e4 : bits .and .u8 (n1 : Int) 4 = 0 := (and4 n1 (by omega) (by omega)).trans (by omega)
  have hfw : c0.tdiv 4 = (f0 : Int) := by rw [Int.tdiv_eq_ediv_of_nonneg (by omega)]; omega
  have EV := Lib.hid (show evV tc = 256 by unfold evV; rw [show tc % 4 = 0 by omega]; rfl)
  have ON := Lib.hid (show tc / 4 % 2 = 0 by omega)
  obtain ⟨wt, hwt⟩ : ∃ c : Int, c = ((f0 : Int) + k) / 256 - (f0 : Int) / 256 := ⟨_, rfl⟩
  obtain ⟨q1, hq1⟩ : ∃ c : Int, c = ((f0 : Int) + k) / 256 := ⟨_, rfl⟩
  obtain ⟨q0, hq0⟩ : ∃ c : Int, c = (f0 : Int) / 256 := ⟨_, rfl⟩
  have hw1 : ((f0 : Int) + k).tdiv 256 = q1 := by rw [Int.tdiv_eq_ediv_of_nonneg (by omega)]; exact hq1.symm
  have hw0 : (f0 : Int).tdiv 256 = q0 := by rw [Int.tdiv_eq_ediv_of_nonneg (by omega)]; exact hq0.symm
  have hw2 : q1 - q0 = wt := by omega
  have q1b : 0 ≤ q1 ∧ q1 < 65536 := by omega
  have q0b : 0 ≤ q0 ∧ q0 < 65536 := by omega
  have q1l := q1b.1
  have q1u := q1b.2
  have q0l := q0b.1
  have q0u := q0b.2
  have c0l : 0 ≤ c0 := by omega
  have c0u : c0 < 65536 := by omega
  have tcl : 0 ≤ tc := by omega
  have tcu : tc < 256 := by omega
  have WT := Lib.hid hwt
  have C0 := Lib.hid hc0
  clear hk hf0 hc0 htc hwt hq1 hq0 q1b q0b g1 g2
  go_enter Tryd.func4, Tryd.ntmps4
  go_upto_region 1 with (fail)
  have B0 := Lib.hid BB.out
  go_wp2_with fail
  with_reducible refine (AW.out _ (TT.out.next B0.out).g).mono ?_
  rintro q_ w1 ⟨rfl, hb⟩
  have B1 := Lib.hid (vian HN.out B0.out hb)
  clear hb B0
  have T2 := Lib.hid (Has.new w1 #[.int .u16 c0, .int .u8 0, .int .u8 0, .int .u8 tc, .bool false] 27)
  have B2 := Lib.hid (vian HN.out B1.out (own1 w1 (.cells #[.int .u16 c0, .int .u8 0, .int .u8 0, .int .u8 tc, .bool false] 27)))
  have LT := Lib.hid (Nat.le_trans HN.out B1.out.size)
  go_upto_region 5 with (fail)
  generalize w1.alloc (.cells #[.int .u16 c0, .int .u8 0, .int .u8 0, .int .u8 tc, .bool false] 27) = w2 at T2 B2 ⊢
  generalize w1.heap.size = tb at T2 LT  ⊢
  clear B1
  obtain ⟨hc, hf⟩ := T2.out.out
  have B3 := Lib.hid (vian HN.out B2.out (own1 w2 (.cells #[.int .i64 256, .int .i64 4, .int .i64 16, .int .i64 64] 3)))
  have T3 := Lib.hid (T2.out.alloc (.cells #[.int .i64 256, .int .i64 4, .int .i64 16, .int .i64 64] 3))
  go_upto_region 6 with (fail)
  clear hc hf
  generalize w2.alloc (.cells #[.int .i64 256, .int .i64 4, .int .i64 16, .int .i64 64] 3) = w3 at B3 T3 ⊢
  clear B2 T2
  obtain ⟨hc, hf⟩ := T3.out.out
  go_upto_region 7 with (fail)
  go_quiet (fail)
  go_upto_region 8 with (fail)
  go_quiet (fail)
  clear hc hf
  go_wp2
  clear hkw e1 e2 e3 hfw hw1 hw0 hw2 q1l q1u q0l q0u b0 b1 b2
  go_loopg [45, 12, 13] k (fun g' i x y wr => ∃ (t : Nat) (l got : Int), t ≤ k ∧ g' + t = k ∧ i = .int .i64 t ∧ x = .int .i64 got ∧ y = .int .u8 l ∧ (0 ≤ l ∧ l < 256) ∧ got = 0 ∧ Below n_ W0 wr ∧ Has wr tb (clV (cntV (f0 + t) l tc)))
  case atStart =>
    refine ⟨0, 0, 0, by omega, by omega, rfl, rfl, rfl, by omega, by rfl, ?_, ?_⟩
    · exact vian HN.out B3.out (below_drewN (below_drewN (Below.refl _ _) _) _)
    · exact Has.below (w := w3) (show Has w3 tb (clV (cntV (f0 + 0) 0 tc)) by have := T3.out; rw [C0.out] at this; exact this) (below_drewN (below_drewN (Below.refl _ _) _) _)
  case round =>
    obtain ⟨t, l, got, ht, hg, rfl, rfl, rfl, hl, hgot, hB, hT⟩ := hrel
    have TG := Lib.hid hg
    have GT := Lib.hid hgot
    have LL := Lib.hid hl
    have B0 := Lib.hid hB
    obtain ⟨c1, hc1⟩ : ∃ c : Int, c = 4 * ((f0 + t : Nat) : Int) % 65536 := ⟨_, rfl⟩
    have T0 := Lib.hid (show Has wr tb #[.int .u16 c1, .int .u8 l, .int .u8 0, .int .u8 tc, .bool false] by rw [hc1]; exact hT)
    have C1 := Lib.hid hc1
    clear hgot hB hT hc1
    by_cases hlt : t < k
    · have l1 : (t : Int) < k := by omega
      have l0 : (0 : Int) ≤ t := by omega
      obtain ⟨c2, l2, d, o2, hst, hc2, hl2, wd, d0, d1, ho, hd1, hd0⟩ := cnt_step (f0 + t) l tc c1 256 C1.out EV.out LL.out (Or.inl ON.out)
      have lz := hl.1
      have lu := hl.2
      have g0 : 0 ≤ got := by have := GT.out; omega
      have gu : got ≤ 4000 := by have := GT.out; omega
      have l2z := hl2.1
      have l2u := hl2.2
      have GT' := Lib.hid (show got + d = 0 by have := GT.out; have := hd0 ON.out; omega)
      have DC := Lib.hid (fun W hG => pt_c ⟨c1, l, 0, tc, false⟩ ⟨c2, l2, 0, tc, o2⟩ ⟨by have := C1.out; dsimp only; omega, LL.out, by dsimp only; omega, by dsimp only; omega⟩ hst W hG)
      have WC := Lib.hid (fun W hG => pw_c ⟨c2, l2, 0, tc, true⟩ ⟨c2, 0, 0, tc, false⟩ 1 0 ⟨by dsimp only; omega, hl2, by dsimp only; omega, by dsimp only; omega⟩ (by omega) (by omega) rfl W hG)
      have C2 := Lib.hid hc2
      have L2 := Lib.hid hl2
      have HO := Lib.hid ho
      clear hst hc2 hl2 ho hd1 hd0 hg hl
      obtain ⟨hc, hf⟩ := T0.out.out
      go_wp2_with fail
      with_reducible refine (DC.out _ (TT.out.next B0.out).g).mono ?_
      rintro q_ w1 ⟨rfl, hb⟩
      have B1 := Lib.hid (vian HN.out B0.out hb)
      have T1 := Lib.hid (T0.out.below hb)
      clear hb hc hf B0 T0
      have B3 := Lib.hid (set5 B1.out tb LT.out (.int .u16 c2) (.int .u8 l2) (.int .u8 0) (.int .u8 tc) (.bool o2))
      have T3 := Lib.hid (T1.out.put5 (.int .u16 c2) (.int .u8 l2) (.int .u8 0) (.int .u8 tc) (.bool o2))
      obtain ⟨hc, hf⟩ := T1.out.out
      go_upto_region 12 with (fail)
      clear hc hf B1 T1
      generalize (World.setCell (World.setCell (World.setCell (World.setCell (World.setCell w1 ⟨tb, 0, none⟩ (.int .u16 c2)) ⟨tb, 1, none⟩ (.int .u8 l2)) ⟨tb, 2, none⟩ (.int .u8 0)) ⟨tb, 3, none⟩ (.int .u8 tc)) ⟨tb, 4, none⟩ (.bool o2)) = w3 at B3 T3 ⊢
      obtain ⟨hc, hf⟩ := T3.out.out
      cases o2 with
      | false =>
        go_wp2
        go_roundg (gk - 1)
        exact ⟨t + 1, l2, got + d, by omega, by have := TG.out; omega, by simp, rfl, rfl, L2.out, GT'.out, B3.out, Eq.mp (congrArg (Has _ tb) (show (#[.int .u16 c2, .int .u8 l2, .int .u8 0, .int .u8 tc, .bool false] : Array Value) = clV (cntV (f0 + (t + 1)) l2 tc) by rw [C2.out]; rfl)) T3.out⟩
        case measure => have := TG.out; omega
      | true =>
        go_wp2_with fail
        with_reducible refine (WC.out _ (TT.out.next B3.out).g).mono ?_
        rintro q_ w4 ⟨rfl, hb⟩
        have B4 := Lib.hid (vian HN.out B3.out hb)
        have T4 := Lib.hid (T3.out.below hb)
        clear hb hc hf B3 T3
        have B5 := Lib.hid (set5 B4.out tb LT.out (.int .u16 c2) (.int .u8 0) (.int .u8 0) (.int .u8 tc) (.bool false))
        have T5 := Lib.hid (T4.out.put5 (.int .u16 c2) (.int .u8 0) (.int .u8 0) (.int .u8 tc) (.bool false))
        obtain ⟨hc, hf⟩ := T4.out.out
        go_wp2
        go_roundg (gk - 1)
        exact ⟨t + 1, 0, got + d, by omega, by have := TG.out; omega, by simp, rfl, rfl, by decide, GT'.out, B5.out, Eq.mp (congrArg (Has _ tb) (show (#[.int .u16 c2, .int .u8 0, .int .u8 0, .int .u8 tc, .bool false] : Array Value) = clV (cntV (f0 + (t + 1)) 0 tc) by rw [C2.out]; rfl)) T5.out⟩
        case measure => have := TG.out; omega
    · have et : t = k := by omega
      subst et
      have eg : got = 0 := by have := GT.out; exact this
      subst eg
      rcases Bool.eq_false_or_eq_true ((0 : Int) == wt) with hq | hq
      all_goals
        go_wp2
        go_ret
        exact ⟨rfl, B0.out⟩
set_option maxHeartbeats 8000000 in
theorem cnt_01 (n0 n1 n2 : Nat) (b0 : n0 < 65536) (b1 : n1 < 256) (b2 : n2 < 65536) (g1 : n1 % 4 = 0) (g2 : n1 / 4 % 2 = 1) (w : World) (hglob : Glob w) : Calls Tryd.prog 4 #[.int .u16 n0, .int .u8 n1, .int .u16 n2] w fun q_ w' => q_ = .returned (.bool true) ∧ Below w.heap.size w w' := by
  suffices hall : ∀ (n_ : Nat) (W0 : World), n_ ≤ W0.heap.size → Below n_ W0 w → Tab n_ W0 → Calls Tryd.prog 4 #[.int .u16 n0, .int .u8 n1, .int .u16 n2] w fun q_ w' => q_ = .returned (.bool true) ∧ Below n_ W0 w' from hall _ _ (Nat.le_refl _) (Below.refl _ _) ⟨hglob.1, hglob⟩
  intro n_ W0 hn hB hT
  have HN := Lib.hid hn
  have BB := Lib.hid hB
  have TT := Lib.hid hT
  clear hn hB hT hglob
  have AW := Lib.hid awake_c
  have hnot : ∀ (x : Bool) (w : World), (Op.unary .not (.bool x)).run Tryd.prog w = .ok (.bool (!x)) w := fun _ _ => rfl
  obtain ⟨k, hk⟩ : ∃ k : Nat, k = n2 % 4000 := ⟨_, rfl⟩
  have hkw : (n2 : Int).tmod 4000 = (k : Int) := by rw [Int.tmod_eq_emod_of_nonneg (by omega)]; omega
  have hk2 : k < 4000 := by omega
  obtain ⟨f0, hf0⟩ : ∃ k : Nat, k = n0 / 4 := ⟨_, rfl⟩
  have hf2 : f0 < 16384 := by omega
  obtain ⟨c0, hc0⟩ : ∃ c : Int, c = 4 * (f0 : Int) % 65536 := ⟨_, rfl⟩
  have e1 : bits .andNot .u16 (n0 : Int) 3 = c0 := (w3not n0 (by omega) (by omega)).trans (by omega)
  obtain ⟨tc, htc⟩ : ∃ c : Int, c = (n1 : Int) % 8 := ⟨_, rfl⟩
  have e2 : bits .and .u8 (n1 : Int) 7 = tc := (and7 n1 (by omega) (by omega)).trans htc.symm
  have e3 : bits .and .u8 (n1 : Int) 3 = 0 := (and3 n1 (by omega) (by omega)).trans (by omega)
  have e4 : bits .and .u8 (n1 : Int) 4 = 4 := (and4 n1 (by omega) (by omega)).trans (by omega)
  have hfw : c0.tdiv 4 = (f0 : Int) := by rw [Int.tdiv_eq_ediv_of_nonneg (by omega)]; omega
  have EV := Lib.hid (show evV tc = 256 by unfold evV; rw [show tc % 4 = 0 by omega]; rfl)
  have ON := Lib.hid (show tc / 4 % 2 = 1 by omega)
  obtain ⟨wt, hwt⟩ : ∃ c : Int, c = ((f0 : Int) + k) / 256 - (f0 : Int) / 256 := ⟨_, rfl⟩
  obtain ⟨q1, hq1⟩ : ∃ c : Int, c = ((f0 : Int) + k) / 256 := ⟨_, rfl⟩
  obtain ⟨q0, hq0⟩ : ∃ c : Int, c = (f0 : Int) / 256 := ⟨_, rfl⟩
  have hw1 : ((f0 : Int) + k).tdiv 256 = q1 := by rw [Int.tdiv_eq_ediv_of_nonneg (by omega)]; exact hq1.symm
  have hw0 : (f0 : Int).tdiv 256 = q0 := by rw [Int.tdiv_eq_ediv_of_nonneg (by omega)]; exact hq0.symm
  have hw2 : q1 - q0 = wt := by omega
  have q1b : 0 ≤ q1 ∧ q1 < 65536 := by omega
  have q0b : 0 ≤ q0 ∧ q0 < 65536 := by omega
  have q1l := q1b.1
  have q1u := q1b.2
  have q0l := q0b.1
  have q0u := q0b.2
  have c0l : 0 ≤ c0 := by omega
  have c0u : c0 < 65536 := by omega
  have tcl : 0 ≤ tc := by omega
  have tcu : tc < 256 := by omega
  have WT := Lib.hid hwt
  have C0 := Lib.hid hc0
  clear hk hf0 hc0 htc hwt hq1 hq0 q1b q0b g1 g2
  go_enter Tryd.func4, Tryd.ntmps4
  go_upto_region 1 with (fail)
  have B0 := Lib.hid BB.out
  go_wp2_with fail
  with_reducible refine (AW.out _ (TT.out.next B0.out).g).mono ?_
  rintro q_ w1 ⟨rfl, hb⟩
  have B1 := Lib.hid (vian HN.out B0.out hb)
  clear hb B0
  have T2 := Lib.hid (Has.new w1 #[.int .u16 c0, .int .u8 0, .int .u8 0, .int .u8 tc, .bool false] 27)
  have B2 := Lib.hid (vian HN.out B1.out (own1 w1 (.cells #[.int .u16 c0, .int .u8 0, .int .u8 0, .int .u8 tc, .bool false] 27)))
  have LT := Lib.hid (Nat.le_trans HN.out B1.out.size)
  go_upto_region 5 with (fail)
  generalize w1.alloc (.cells #[.int .u16 c0, .int .u8 0, .int .u8 0, .int .u8 tc, .bool false] 27) = w2 at T2 B2 ⊢
  generalize w1.heap.size = tb at T2 LT  ⊢
  clear B1
  obtain ⟨hc, hf⟩ := T2.out.out
  have B3 := Lib.hid (vian HN.out B2.out (own1 w2 (.cells #[.int .i64 256, .int .i64 4, .int .i64 16, .int .i64 64] 3)))
  have T3 := Lib.hid (T2.out.alloc (.cells #[.int .i64 256, .int .i64 4, .int .i64 16, .int .i64 64] 3))
  go_upto_region 6 with (fail)
  clear hc hf
  generalize w2.alloc (.cells #[.int .i64 256, .int .i64 4, .int .i64 16, .int .i64 64] 3) = w3 at B3 T3 ⊢
  clear B2 T2
  obtain ⟨hc, hf⟩ := T3.out.out
  go_upto_region 7 with (fail)
  go_quiet (fail)
  go_upto_region 8 with (fail)
  go_quiet (fail)
  clear hc hf
  go_wp2
  clear hkw e1 e2 e3 hfw hw1 hw0 hw2 q1l q1u q0l q0u b0 b1 b2
  go_loopg [45, 12, 13] k (fun g' i x y wr => ∃ (t : Nat) (l got : Int), t ≤ k ∧ g' + t = k ∧ i = .int .i64 t ∧ x = .int .i64 got ∧ y = .int .u8 l ∧ (0 ≤ l ∧ l < 256) ∧ got = ((f0 : Int) + t) / 256 - (f0 : Int) / 256 ∧ Below n_ W0 wr ∧ Has wr tb (clV (cntV (f0 + t) l tc)))
  case atStart =>
    refine ⟨0, 0, 0, by omega, by omega, rfl, rfl, rfl, by omega, by omega, ?_, ?_⟩
    · exact vian HN.out B3.out (below_drewN (below_drewN (Below.refl _ _) _) _)
    · exact Has.below (w := w3) (show Has w3 tb (clV (cntV (f0 + 0) 0 tc)) by have := T3.out; rw [C0.out] at this; exact this) (below_drewN (below_drewN (Below.refl _ _) _) _)
  case round =>
    obtain ⟨t, l, got, ht, hg, rfl, rfl, rfl, hl, hgot, hB, hT⟩ := hrel
    have TG := Lib.hid hg
    have GT := Lib.hid hgot
    have LL := Lib.hid hl
    have B0 := Lib.hid hB
    obtain ⟨c1, hc1⟩ : ∃ c : Int, c = 4 * ((f0 + t : Nat) : Int) % 65536 := ⟨_, rfl⟩
    have T0 := Lib.hid (show Has wr tb #[.int .u16 c1, .int .u8 l, .int .u8 0, .int .u8 tc, .bool false] by rw [hc1]; exact hT)
    have C1 := Lib.hid hc1
    clear hgot hB hT hc1
    by_cases hlt : t < k
    · have l1 : (t : Int) < k := by omega
      have l0 : (0 : Int) ≤ t := by omega
      obtain ⟨c2, l2, d, o2, hst, hc2, hl2, wd, d0, d1, ho, hd1, hd0⟩ := cnt_step (f0 + t) l tc c1 256 C1.out EV.out LL.out (Or.inr ON.out)
      have lz := hl.1
      have lu := hl.2
      have g0 : 0 ≤ got := by have := GT.out; omega
      have gu : got ≤ 4000 := by have := GT.out; omega
      have l2z := hl2.1
      have l2u := hl2.2
      have GT' := Lib.hid (show got + d = ((f0 : Int) + (t + 1 : Nat)) / 256 - (f0 : Int) / 256 by have := GT.out; have := hd1 ON.out; omega)
      have DC := Lib.hid (fun W hG => pt_c ⟨c1, l, 0, tc, false⟩ ⟨c2, l2, 0, tc, o2⟩ ⟨by have := C1.out; dsimp only; omega, LL.out, by dsimp only; omega, by dsimp only; omega⟩ hst W hG)
      have WC := Lib.hid (fun W hG => pw_c ⟨c2, l2, 0, tc, true⟩ ⟨c2, 0, 0, tc, false⟩ 1 0 ⟨by dsimp only; omega, hl2, by dsimp only; omega, by dsimp only; omega⟩ (by omega) (by omega) rfl W hG)
      have C2 := Lib.hid hc2
      have L2 := Lib.hid hl2
      have HO := Lib.hid ho
      clear hst hc2 hl2 ho hd1 hd0 hg hl
      obtain ⟨hc, hf⟩ := T0.out.out
      go_wp2_with fail
      with_reducible refine (DC.out _ (TT.out.next B0.out).g).mono ?_
      rintro q_ w1 ⟨rfl, hb⟩
      have B1 := Lib.hid (vian HN.out B0.out hb)
      have T1 := Lib.hid (T0.out.below hb)
      clear hb hc hf B0 T0
      have B3 := Lib.hid (set5 B1.out tb LT.out (.int .u16 c2) (.int .u8 l2) (.int .u8 0) (.int .u8 tc) (.bool o2))
      have T3 := Lib.hid (T1.out.put5 (.int .u16 c2) (.int .u8 l2) (.int .u8 0) (.int .u8 tc) (.bool o2))
      obtain ⟨hc, hf⟩ := T1.out.out
      go_upto_region 12 with (fail)
      clear hc hf B1 T1
      generalize (World.setCell (World.setCell (World.setCell (World.setCell (World.setCell w1 ⟨tb, 0, none⟩ (.int .u16 c2)) ⟨tb, 1, none⟩ (.int .u8 l2)) ⟨tb, 2, none⟩ (.int .u8 0)) ⟨tb, 3, none⟩ (.int .u8 tc)) ⟨tb, 4, none⟩ (.bool o2)) = w3 at B3 T3 ⊢
      obtain ⟨hc, hf⟩ := T3.out.out
      cases o2 with
      | false =>
        go_wp2
        go_roundg (gk - 1)
        exact ⟨t + 1, l2, got + d, by omega, by have := TG.out; omega, by simp, rfl, rfl, L2.out, GT'.out, B3.out, Eq.mp (congrArg (Has _ tb) (show (#[.int .u16 c2, .int .u8 l2, .int .u8 0, .int .u8 tc, .bool false] : Array Value) = clV (cntV (f0 + (t + 1)) l2 tc) by rw [C2.out]; rfl)) T3.out⟩
        case measure => have := TG.out; omega
      | true =>
        go_wp2_with fail
        with_reducible refine (WC.out _ (TT.out.next B3.out).g).mono ?_
        rintro q_ w4 ⟨rfl, hb⟩
        have B4 := Lib.hid (vian HN.out B3.out hb)
        have T4 := Lib.hid (T3.out.below hb)
        clear hb hc hf B3 T3
        have B5 := Lib.hid (set5 B4.out tb LT.out (.int .u16 c2) (.int .u8 0) (.int .u8 0) (.int .u8 tc) (.bool false))
        have T5 := Lib.hid (T4.out.put5 (.int .u16 c2) (.int .u8 0) (.int .u8 0) (.int .u8 tc) (.bool false))
        obtain ⟨hc, hf⟩ := T4.out.out
        go_wp2
        go_roundg (gk - 1)
        exact ⟨t + 1, 0, got + d, by omega, by have := TG.out; omega, by simp, rfl, rfl, by decide, GT'.out, B5.out, Eq.mp (congrArg (Has _ tb) (show (#[.int .u16 c2, .int .u8 0, .int .u8 0, .int .u8 tc, .bool false] : Array Value) = clV (cntV (f0 + (t + 1)) 0 tc) by rw [C2.out]; rfl)) T5.out⟩
        case measure => have := TG.out; omega
    · have et : t = k := by omega
      subst et
      have eg : got = wt := by have := GT.out; rw [this]; exact WT.out.symm
      subst eg
      go_wp2
      go_ret
      exact ⟨rfl, B0.out⟩
set_option maxHeartbeats 8000000 in
theorem cnt_10 (n0 n1 n2 : Nat) (b0 : n0 < 65536) (b1 : n1 < 256) (b2 : n2 < 65536) (g1 : n1 % 4 = 1) (g2 : n1 / 4 % 2 = 0) (w : World) (hglob : Glob w) : Calls Tryd.prog 4 #[.int .u16 n0, .int .u8 n1, .int .u16 n2] w fun q_ w' => q_ = .returned (.bool true) ∧ Below w.heap.size w w' := by
  suffices hall : ∀ (n_ : Nat) (W0 : World), n_ ≤ W0.heap.size → Below n_ W0 w → Tab n_ W0 → Calls Tryd.prog 4 #[.int .u16 n0, .int .u8 n1, .int .u16 n2] w fun q_ w' => q_ = .returned (.bool true) ∧ Below n_ W0 w' from hall _ _ (Nat.le_refl _) (Below.refl _ _) ⟨hglob.1, hglob⟩
  intro n_ W0 hn hB hT
  have HN := Lib.hid hn
  have BB := Lib.hid hB
  have TT := Lib.hid hT
  clear hn hB hT hglob
  have AW := Lib.hid awake_c
  have hnot : ∀ (x : Bool) (w : World), (Op.unary .not (.bool x)).run Tryd.prog w = .ok (.bool (!x)) w := fun _ _ => rfl
  obtain ⟨k, hk⟩ : ∃ k : Nat, k = n2 % 4000 := ⟨_, rfl⟩
  have hkw : (n2 : Int).tmod 4000 = (k : Int) := by rw [Int.tmod_eq_emod_of_nonneg (by omega)]; omega
  have hk2 : k < 4000 := by omega
  obtain ⟨f0, hf0⟩ : ∃ k : Nat, k = n0 / 4 := ⟨_, rfl⟩
  have hf2 : f0 < 16384 := by omega
  obtain ⟨c0, hc0⟩ : ∃ c : Int, c = 4 * (f0 : Int) % 65536 := ⟨_, rfl⟩
  have e1 : bits .andNot .u16 (n0 : Int) 3 = c0 := (w3not n0 (by omega) (by omega)).trans (by omega)
  obtain ⟨tc, htc⟩ : ∃ c : Int, c = (n1 : Int) % 8 := ⟨_, rfl⟩
  have e2 : bits .and .u8 (n1 : Int) 7 = tc := (and7 n1 (by omega) (by omega)).trans htc.symm
  have e3 : bits .and .u8 (n1 : Int) 3 = 1 := (and3 n1 (by omega) (by omega)).trans (by omega)
  have e4 : bits .and .u8 (n1 : Int) 4 = 0 := (and4 n1 (by omega) (by omega)).trans (by omega)
  have hfw : c0.tdiv 4 = (f0 : Int) := by rw [Int.tdiv_eq_ediv_of_nonneg (by omega)]; omega
  have EV := Lib.hid (show evV tc = 4 by unfold evV; rw [show tc % 4 = 1 by omega]; rfl)
  have ON := Lib.hid (show tc / 4 % 2 = 0 by omega)
  obtain ⟨wt, hwt⟩ : ∃ c : Int, c = ((f0 : Int) + k) / 4 - (f0 : Int) / 4 := ⟨_, rfl⟩
  obtain ⟨q1, hq1⟩ : ∃ c : Int, c = ((f0 : Int) + k) / 4 := ⟨_, rfl⟩
  obtain ⟨q0, hq0⟩ : ∃ c : Int, c = (f0 : Int) / 4 := ⟨_, rfl⟩
  have hw1 : ((f0 : Int) + k).tdiv 4 = q1 := by rw [Int.tdiv_eq_ediv_of_nonneg (by omega)]; exact hq1.symm
  have hw0 : (f0 : Int).tdiv 4 = q0 := by rw [Int.tdiv_eq_ediv_of_nonneg (by omega)]; exact hq0.symm
  have hw2 : q1 - q0 = wt := by omega
  have q1b : 0 ≤ q1 ∧ q1 < 65536 := by omega
  have q0b : 0 ≤ q0 ∧ q0 < 65536 := by omega
  have q1l := q1b.1
  have q1u := q1b.2
  have q0l := q0b.1
  have q0u := q0b.2
  have c0l : 0 ≤ c0 := by omega
  have c0u : c0 < 65536 := by omega
  have tcl : 0 ≤ tc := by omega
  have tcu : tc < 256 := by omega
  have WT := Lib.hid hwt
  have C0 := Lib.hid hc0
  clear hk hf0 hc0 htc hwt hq1 hq0 q1b q0b g1 g2
  go_enter Tryd.func4, Tryd.ntmps4
  go_upto_region 1 with (fail)
  have B0 := Lib.hid BB.out
  go_wp2_with fail
  with_reducible refine (AW.out _ (TT.out.next B0.out).g).mono ?_
  rintro q_ w1 ⟨rfl, hb⟩
  have B1 := Lib.hid (vian HN.out B0.out hb)
  clear hb B0
  have T2 := Lib.hid (Has.new w1 #[.int .u16 c0, .int .u8 0, .int .u8 0, .int .u8 tc, .bool false] 27)
  have B2 := Lib.hid (vian HN.out B1.out (own1 w1 (.cells #[.int .u16 c0, .int .u8 0, .int .u8 0, .int .u8 tc, .bool false] 27)))
  have LT := Lib.hid (Nat.le_trans HN.out B1.out.size)
  go_upto_region 5 with (fail)
  generalize w1.alloc (.cells #[.int .u16 c0, .int .u8 0, .int .u8 0, .int .u8 tc, .bool false] 27) = w2 at T2 B2 ⊢
  generalize w1.heap.size = tb at T2 LT  ⊢
  clear B1
  obtain ⟨hc, hf⟩ := T2.out.out
  have B3 := Lib.hid (vian HN.out B2.out (own1 w2 (.cells #[.int .i64 256, .int .i64 4, .int .i64 16, .int .i64 64] 3)))
  have T3 := Lib.hid (T2.out.alloc (.cells #[.int .i64 256, .int .i64 4, .int .i64 16, .int .i64 64] 3))
  go_upto_region 6 with (fail)
  clear hc hf
  generalize w2.alloc (.cells #[.int .i64 256, .int .i64 4, .int .i64 16, .int .i64 64] 3) = w3 at B3 T3 ⊢
  clear B2 T2
  obtain ⟨hc, hf⟩ := T3.out.out
  go_upto_region 7 with (fail)
  go_quiet (fail)
  go_upto_region 8 with (fail)
  go_quiet (fail)
  clear hc hf
  go_wp2
  clear hkw e1 e2 e3 hfw hw1 hw0 hw2 q1l q1u q0l q0u b0 b1 b2
  go_loopg [45, 12, 13] k (fun g' i x y wr => ∃ (t : Nat) (l got : Int), t ≤ k ∧ g' + t = k ∧ i = .int .i64 t ∧ x = .int .i64 got ∧ y = .int .u8 l ∧ (0 ≤ l ∧ l < 256) ∧ got = 0 ∧ Below n_ W0 wr ∧ Has wr tb (clV (cntV (f0 + t) l tc)))
  case atStart =>
    refine ⟨0, 0, 0, by omega, by omega, rfl, rfl, rfl, by omega, by rfl, ?_, ?_⟩
    · exact vian HN.out B3.out (below_drewN (below_drewN (Below.refl _ _) _) _)
    · exact Has.below (w := w3) (show Has w3 tb (clV (cntV (f0 + 0) 0 tc)) by have := T3.out; rw [C0.out] at this; exact this) (below_drewN (below_drewN (Below.refl _ _) _) _)
  case round =>
    obtain ⟨t, l, got, ht, hg, rfl, rfl, rfl, hl, hgot, hB, hT⟩ := hrel
    have TG := Lib.hid hg
    have GT := Lib.hid hgot
    have LL := Lib.hid hl
    have B0 := Lib.hid hB
    obtain ⟨c1, hc1⟩ : ∃ c : Int, c = 4 * ((f0 + t : Nat) : Int) % 65536 := ⟨_, rfl⟩
    have T0 := Lib.hid (show Has wr tb #[.int .u16 c1, .int .u8 l, .int .u8 0, .int .u8 tc, .bool false] by rw [hc1]; exact hT)
    have C1 := Lib.hid hc1
    clear hgot hB hT hc1
    by_cases hlt : t < k
    · have l1 : (t : Int) < k := by omega
      have l0 : (0 : Int) ≤ t := by omega
      obtain ⟨c2, l2, d, o2, hst, hc2, hl2, wd, d0, d1, ho, hd1, hd0⟩ := cnt_step (f0 + t) l tc c1 4 C1.out EV.out LL.out (Or.inl ON.out)
      have lz := hl.1
      have lu := hl.2
      have g0 : 0 ≤ got := by have := GT.out; omega
      have gu : got ≤ 4000 := by have := GT.out; omega
      have l2z := hl2.1
      have l2u := hl2.2
      have GT' := Lib.hid (show got + d = 0 by have := GT.out; have := hd0 ON.out; omega)
      have DC := Lib.hid (fun W hG => pt_c ⟨c1, l, 0, tc, false⟩ ⟨c2, l2, 0, tc, o2⟩ ⟨by have := C1.out; dsimp only; omega, LL.out, by dsimp only; omega, by dsimp only; omega⟩ hst W hG)
      have WC := Lib.hid (fun W hG => pw_c ⟨c2, l2, 0, tc, true⟩ ⟨c2, 0, 0, tc, false⟩ 1 0 ⟨by dsimp only; omega, hl2, by dsimp only; omega, by dsimp only; omega⟩ (by omega) (by omega) rfl W hG)
      have C2 := Lib.hid hc2
      have L2 := Lib.hid hl2
      have HO := Lib.hid ho
      clear hst hc2 hl2 ho hd1 hd0 hg hl
      obtain ⟨hc, hf⟩ := T0.out.out
      go_wp2_with fail
      with_reducible refine (DC.out _ (TT.out.next B0.out).g).mono ?_
      rintro q_ w1 ⟨rfl, hb⟩
      have B1 := Lib.hid (vian HN.out B0.out hb)
      have T1 := Lib.hid (T0.out.below hb)
      clear hb hc hf B0 T0
      have B3 := Lib.hid (set5 B1.out tb LT.out (.int .u16 c2) (.int .u8 l2) (.int .u8 0) (.int .u8 tc) (.bool o2))
      have T3 := Lib.hid (T1.out.put5 (.int .u16 c2) (.int .u8 l2) (.int .u8 0) (.int .u8 tc) (.bool o2))
      obtain ⟨hc, hf⟩ := T1.out.out
      go_upto_region 12 with (fail)
      clear hc hf B1 T1
      generalize (World.setCell (World.setCell (World.setCell (World.setCell (World.setCell w1 ⟨tb, 0, none⟩ (.int .u16 c2)) ⟨tb, 1, none⟩ (.int .u8 l2)) ⟨tb, 2, none⟩ (.int .u8 0)) ⟨tb, 3, none⟩ (.int .u8 tc)) ⟨tb, 4, none⟩ (.bool o2)) = w3 at B3 T3 ⊢
      obtain ⟨hc, hf⟩ := T3.out.out
      cases o2 with
      | false =>
        go_wp2
        go_roundg (gk - 1)
        exact ⟨t + 1, l2, got + d, by omega, by have := TG.out; omega, by simp, rfl, rfl, L2.out, GT'.out, B3.out, Eq.mp (congrArg (Has _ tb) (show (#[.int .u16 c2, .int .u8 l2, .int .u8 0, .int .u8 tc, .bool false] : Array Value) = clV (cntV (f0 + (t + 1)) l2 tc) by rw [C2.out]; rfl)) T3.out⟩
        case measure => have := TG.out; omega
      | true =>
        go_wp2_with fail
        with_reducible refine (WC.out _ (TT.out.next B3.out).g).mono ?_
        rintro q_ w4 ⟨rfl, hb⟩
        have B4 := Lib.hid (vian HN.out B3.out hb)
        have T4 := Lib.hid (T3.out.below hb)
        clear hb hc hf B3 T3
        have B5 := Lib.hid (set5 B4.out tb LT.out (.int .u16 c2) (.int .u8 0) (.int .u8 0) (.int .u8 tc) (.bool false))
        have T5 := Lib.hid (T4.out.put5 (.int .u16 c2) (.int .u8 0) (.int .u8 0) (.int .u8 tc) (.bool false))
        obtain ⟨hc, hf⟩ := T4.out.out
        go_wp2
        go_roundg (gk - 1)
        exact ⟨t + 1, 0, got + d, by omega, by have := TG.out; omega, by simp, rfl, rfl, by decide, GT'.out, B5.out, Eq.mp (congrArg (Has _ tb) (show (#[.int .u16 c2, .int .u8 0, .int .u8 0, .int .u8 tc, .bool false] : Array Value) = clV (cntV (f0 + (t + 1)) 0 tc) by rw [C2.out]; rfl)) T5.out⟩
        case measure => have := TG.out; omega
    · have et : t = k := by omega
      subst et
      have eg : got = 0 := by have := GT.out; exact this
      subst eg
      rcases Bool.eq_false_or_eq_true ((0 : Int) == wt) with hq | hq
      all_goals
        go_wp2
        go_ret
        exact ⟨rfl, B0.out⟩
set_option maxHeartbeats 8000000 in
theorem cnt_11 (n0 n1 n2 : Nat) (b0 : n0 < 65536) (b1 : n1 < 256) (b2 : n2 < 65536) (g1 : n1 % 4 = 1) (g2 : n1 / 4 % 2 = 1) (w : World) (hglob : Glob w) : Calls Tryd.prog 4 #[.int .u16 n0, .int .u8 n1, .int .u16 n2] w fun q_ w' => q_ = .returned (.bool true) ∧ Below w.heap.size w w' := by
  suffices hall : ∀ (n_ : Nat) (W0 : World), n_ ≤ W0.heap.size → Below n_ W0 w → Tab n_ W0 → Calls Tryd.prog 4 #[.int .u16 n0, .int .u8 n1, .int .u16 n2] w fun q_ w' => q_ = .returned (.bool true) ∧ Below n_ W0 w' from hall _ _ (Nat.le_refl _) (Below.refl _ _) ⟨hglob.1, hglob⟩
  intro n_ W0 hn hB hT
  have HN := Lib.hid hn
  have BB := Lib.hid hB
  have TT := Lib.hid hT
  clear hn hB hT hglob
  have AW := Lib.hid awake_c
  have hnot : ∀ (x : Bool) (w : World), (Op.unary .not (.bool x)).run Tryd.prog w = .ok (.bool (!x)) w := fun _ _ => rfl
  obtain ⟨k, hk⟩ : ∃ k : Nat, k = n2 % 4000 := ⟨_, rfl⟩
  have hkw : (n2 : Int).tmod 4000 = (k : Int) := by rw [Int.tmod_eq_emod_of_nonneg (by omega)]; omega
  have hk2 : k < 4000 := by omega
  obtain ⟨f0, hf0⟩ : ∃ k : Nat, k = n0 / 4 := ⟨_, rfl⟩
  have hf2 : f0 < 16384 := by omega
  obtain ⟨c0, hc0⟩ : ∃ c : Int, c = 4 * (f0 : Int) % 65536 := ⟨_, rfl⟩
  have e1 : bits .andNot .u16 (n0 : Int) 3 = c0 := (w3not n0 (by omega) (by omega)).trans (by omega)
  obtain ⟨tc, htc⟩ : ∃ c : Int, c = (n1 : Int) % 8 := ⟨_, rfl⟩
  have e2 : bits .and .u8 (n1 : Int) 7 = tc := (and7 n1 (by omega) (by omega)).trans htc.symm
  have e3 : bits .and .u8 (n1 : Int) 3 = 1 := (and3 n1 (by omega) (by omega)).trans (by omega)
  have e4 : bits .and .u8 (n1 : Int) 4 = 4 := (and4 n1 (by omega) (by omega)).trans (by omega)
  have hfw : c0.tdiv 4 = (f0 : Int) := by rw [Int.tdiv_eq_ediv_of_nonneg (by omega)]; omega
  have EV := Lib.hid (show evV tc = 4 by unfold evV; rw [show tc % 4 = 1 by omega]; rfl)
  have ON := Lib.hid (show tc / 4 % 2 = 1 by omega)
  obtain ⟨wt, hwt⟩ : ∃ c : Int, c = ((f0 : Int) + k) / 4 - (f0 : Int) / 4 := ⟨_, rfl⟩
  obtain ⟨q1, hq1⟩ : ∃ c : Int, c = ((f0 : Int) + k) / 4 := ⟨_, rfl⟩
  obtain ⟨q0, hq0⟩ : ∃ c : Int, c = (f0 : Int) / 4 := ⟨_, rfl⟩
  have hw1 : ((f0 : Int) + k).tdiv 4 = q1 := by rw [Int.tdiv_eq_ediv_of_nonneg (by omega)]; exact hq1.symm
  have hw0 : (f0 : Int).tdiv 4 = q0 := by rw [Int.tdiv_eq_ediv_of_nonneg (by omega)]; exact hq0.symm
  have hw2 : q1 - q0 = wt := by omega
  have q1b : 0 ≤ q1 ∧ q1 < 65536 := by omega
  have q0b : 0 ≤ q0 ∧ q0 < 65536 := by omega
  have q1l := q1b.1
  have q1u := q1b.2
  have q0l := q0b.1
  have q0u := q0b.2
  have c0l : 0 ≤ c0 := by omega
  have c0u : c0 < 65536 := by omega
  have tcl : 0 ≤ tc := by omega
  have tcu : tc < 256 := by omega
  have WT := Lib.hid hwt
  have C0 := Lib.hid hc0
  clear hk hf0 hc0 htc hwt hq1 hq0 q1b q0b g1 g2
  go_enter Tryd.func4, Tryd.ntmps4
  go_upto_region 1 with (fail)
  have B0 := Lib.hid BB.out
  go_wp2_with fail
  with_reducible refine (AW.out _ (TT.out.next B0.out).g).mono ?_
  rintro q_ w1 ⟨rfl, hb⟩
  have B1 := Lib.hid (vian HN.out B0.out hb)
  clear hb B0
  have T2 := Lib.hid (Has.new w1 #[.int .u16 c0, .int .u8 0, .int .u8 0, .int .u8 tc, .bool false] 27)
  have B2 := Lib.hid (vian HN.out B1.out (own1 w1 (.cells #[.int .u16 c0, .int .u8 0, .int .u8 0, .int .u8 tc, .bool false] 27)))
  have LT := Lib.hid (Nat.le_trans HN.out B1.out.size)
  go_upto_region 5 with (fail)
  generalize w1.alloc (.cells #[.int .u16 c0, .int .u8 0, .int .u8 0, .int .u8 tc, .bool false] 27) = w2 at T2 B2 ⊢
  generalize w1.heap.size = tb at T2 LT  ⊢
  clear B1
  obtain ⟨hc, hf⟩ := T2.out.out
  have B3 := Lib.hid (vian HN.out B2.out (own1 w2 (.cells #[.int .i64 256, .int .i64 4, .int .i64 16, .int .i64 64] 3)))
  have T3 := Lib.hid (T2.out.alloc (.cells #[.int .i64 256, .int .i64 4, .int .i64 16, .int .i64 64] 3))
  go_upto_region 6 with (fail)
  clear hc hf
  generalize w2.alloc (.cells #[.int .i64 256, .int .i64 4, .int .i64 16, .int .i64 64] 3) = w3 at B3 T3 ⊢
  clear B2 T2
  obtain ⟨hc, hf⟩ := T3.out.out
  go_upto_region 7 with (fail)
  go_quiet (fail)
  go_upto_region 8 with (fail)
  go_quiet (fail)
  clear hc hf
  go_wp2
  clear hkw e1 e2 e3 hfw hw1 hw0 hw2 q1l q1u q0l q0u b0 b1 b2
  go_loopg [45, 12, 13] k (fun g' i x y wr => ∃ (t : Nat) (l got : Int), t ≤ k ∧ g' + t = k ∧ i = .int .i64 t ∧ x = .int .i64 got ∧ y = .int .u8 l ∧ (0 ≤ l ∧ l < 256) ∧ got = ((f0 : Int) + t) / 4 - (f0 : Int) / 4 ∧ Below n_ W0 wr ∧ Has wr tb (clV (cntV (f0 + t) l tc)))
  case atStart =>
    refine ⟨0, 0, 0, by omega, by omega, rfl, rfl, rfl, by omega, by omega, ?_, ?_⟩
    · exact vian HN.out B3.out (below_drewN (below_drewN (Below.refl _ _) _) _)
    · exact Has.below (w := w3) (show Has w3 tb (clV (cntV (f0 + 0) 0 tc)) by have := T3.out; rw [C0.out] at this; exact this) (below_drewN (below_drewN (Below.refl _ _) _) _)
  case round =>
    obtain ⟨t, l, got, ht, hg, rfl, rfl, rfl, hl, hgot, hB, hT⟩ := hrel
    have TG := Lib.hid hg
    have GT := Lib.hid hgot
    have LL := Lib.hid hl
    have B0 := Lib.hid hB
    obtain ⟨c1, hc1⟩ : ∃ c : Int, c = 4 * ((f0 + t : Nat) : Int) % 65536 := ⟨_, rfl⟩
    have T0 := Lib.hid (show Has wr tb #[.int .u16 c1, .int .u8 l, .int .u8 0, .int .u8 tc, .bool false] by rw [hc1]; exact hT)
    have C1 := Lib.hid hc1
    clear hgot hB hT hc1
    by_cases hlt : t < k
    · have l1 : (t : Int) < k := by omega
      have l0 : (0 : Int) ≤ t := by omega
      obtain ⟨c2, l2, d, o2, hst, hc2, hl2, wd, d0, d1, ho, hd1, hd0⟩ := cnt_step (f0 + t) l tc c1 4 C1.out EV.out LL.out (Or.inr ON.out)
      have lz := hl.1
      have lu := hl.2
      have g0 : 0 ≤ got := by have := GT.out; omega
      have gu : got ≤ 4000 := by have := GT.out; omega
      have l2z := hl2.1
      have l2u := hl2.2
      have GT' := Lib.hid (show got + d = ((f0 : Int) + (t + 1 : Nat)) / 4 - (f0 : Int) / 4 by have := GT.out; have := hd1 ON.out; omega)
      have DC := Lib.hid (fun W hG => pt_c ⟨c1, l, 0, tc, false⟩ ⟨c2, l2, 0, tc, o2⟩ ⟨by have := C1.out; dsimp only; omega, LL.out, by dsimp only; omega, by dsimp only; omega⟩ hst W hG)
      have WC := Lib.hid (fun W hG => pw_c ⟨c2, l2, 0, tc, true⟩ ⟨c2, 0, 0, tc, false⟩ 1 0 ⟨by dsimp only; omega, hl2, by dsimp only; omega, by dsimp only; omega⟩ (by omega) (by omega) rfl W hG)
      have C2 := Lib.hid hc2
      have L2 := Lib.hid hl2
      have HO := Lib.hid ho
      clear hst hc2 hl2 ho hd1 hd0 hg hl
      obtain ⟨hc, hf⟩ := T0.out.out
      go_wp2_with fail
      with_reducible refine (DC.out _ (TT.out.next B0.out).g).mono ?_
      rintro q_ w1 ⟨rfl, hb⟩
      have B1 := Lib.hid (vian HN.out B0.out hb)
      have T1 := Lib.hid (T0.out.below hb)
      clear hb hc hf B0 T0
      have B3 := Lib.hid (set5 B1.out tb LT.out (.int .u16 c2) (.int .u8 l2) (.int .u8 0) (.int .u8 tc) (.bool o2))
      have T3 := Lib.hid (T1.out.put5 (.int .u16 c2) (.int .u8 l2) (.int .u8 0) (.int .u8 tc) (.bool o2))
      obtain ⟨hc, hf⟩ := T1.out.out
      go_upto_region 12 with (fail)
      clear hc hf B1 T1
      generalize (World.setCell (World.setCell (World.setCell (World.setCell (World.setCell w1 ⟨tb, 0, none⟩ (.int .u16 c2)) ⟨tb, 1, none⟩ (.int .u8 l2)) ⟨tb, 2, none⟩ (.int .u8 0)) ⟨tb, 3, none⟩ (.int .u8 tc)) ⟨tb, 4, none⟩ (.bool o2)) = w3 at B3 T3 ⊢
      obtain ⟨hc, hf⟩ := T3.out.out
      cases o2 with
      | false =>
        go_wp2
        go_roundg (gk - 1)
        exact ⟨t + 1, l2, got + d, by omega, by have := TG.out; omega, by simp, rfl, rfl, L2.out, GT'.out, B3.out, Eq.mp (congrArg (Has _ tb) (show (#[.int .u16 c2, .int .u8 l2, .int .u8 0, .int .u8 tc, .bool false] : Array Value) = clV (cntV (f0 + (t + 1)) l2 tc) by rw [C2.out]; rfl)) T3.out⟩
        case measure => have := TG.out; omega
      | true =>
        go_wp2_with fail
        with_reducible refine (WC.out _ (TT.out.next B3.out).g).mono ?_
        rintro q_ w4 ⟨rfl, hb⟩
        have B4 := Lib.hid (vian HN.out B3.out hb)
        have T4 := Lib.hid (T3.out.below hb)
        clear hb hc hf B3 T3
        have B5 := Lib.hid (set5 B4.out tb LT.out (.int .u16 c2) (.int .u8 0) (.int .u8 0) (.int .u8 tc) (.bool false))
        have T5 := Lib.hid (T4.out.put5 (.int .u16 c2) (.int .u8 0) (.int .u8 0) (.int .u8 tc) (.bool false))
        obtain ⟨hc, hf⟩ := T4.out.out
        go_wp2
        go_roundg (gk - 1)
        exact ⟨t + 1, 0, got + d, by omega, by have := TG.out; omega, by simp, rfl, rfl, by decide, GT'.out, B5.out, Eq.mp (congrArg (Has _ tb) (show (#[.int .u16 c2, .int .u8 0, .int .u8 0, .int .u8 tc, .bool false] : Array Value) = clV (cntV (f0 + (t + 1)) 0 tc) by rw [C2.out]; rfl)) T5.out⟩
        case measure => have := TG.out; omega
    · have et : t = k := by omega
      subst et
      have eg : got = wt := by have := GT.out; rw [this]; exact WT.out.symm
      subst eg
      go_wp2
      go_ret
      exact ⟨rfl, B0.out⟩
set_option maxHeartbeats 8000000 in
theorem cnt_20 (n0 n1 n2 : Nat) (b0 : n0 < 65536) (b1 : n1 < 256) (b2 : n2 < 65536) (g1 : n1 % 4 = 2) (g2 : n1 / 4 % 2 = 0) (w : World) (hglob : Glob w) : Calls Tryd.prog 4 #[.int .u16 n0, .int .u8 n1, .int .u16 n2] w fun q_ w' => q_ = .returned (.bool true) ∧ Below w.heap.size w w' := by
  suffices hall : ∀ (n_ : Nat) (W0 : World), n_ ≤ W0.heap.size → Below n_ W0 w → Tab n_ W0 → Calls Tryd.prog 4 #[.int .u16 n0, .int .u8 n1, .int .u16 n2] w fun q_ w' => q_ = .returned (.bool true) ∧ Below n_ W0 w' from hall _ _ (Nat.le_refl _) (Below.refl _ _) ⟨hglob.1, hglob⟩
  intro n_ W0 hn hB hT
  have HN := Lib.hid hn
  have BB := Lib.hid hB
  have TT := Lib.hid hT
  clear hn hB hT hglob
  have AW := Lib.hid awake_c
  have hnot : ∀ (x : Bool) (w : World), (Op.unary .not (.bool x)).run Tryd.prog w = .ok (.bool (!x)) w := fun _ _ => rfl
  obtain ⟨k, hk⟩ : ∃ k : Nat, k = n2 % 4000 := ⟨_, rfl⟩
  have hkw : (n2 : Int).tmod 4000 = (k : Int) := by rw [Int.tmod_eq_emod_of_nonneg (by omega)]; omega
  have hk2 : k < 4000 := by omega
  obtain ⟨f0, hf0⟩ : ∃ k : Nat, k = n0 / 4 := ⟨_, rfl⟩
  have hf2 : f0 < 16384 := by omega
  obtain ⟨c0, hc0⟩ : ∃ c : Int, c = 4 * (f0 : Int) % 65536 := ⟨_, rfl⟩
  have e1 : bits .andNot .u16 (n0 : Int) 3 = c0 := (w3not n0 (by omega) (by omega)).trans (by omega)
  obtain ⟨tc, htc⟩ : ∃ c : Int, c = (n1 : Int) % 8 := ⟨_, rfl⟩
  have e2 : bits .and .u8 (n1 : Int) 7 = tc := (and7 n1 (by omega) (by omega)).trans htc.symm
  have e3 : bits .and .u8 (n1 : Int) 3 = 2 := (and3 n1 (by omega) (by omega)).trans (by omega)
  have e4 : bits .and .u8 (n1 : Int) 4 = 0 := (and4 n1 (by omega) (by omega)).trans (by omega)
  have hfw : c0.tdiv 4 = (f0 : Int) := by rw [Int.tdiv_eq_ediv_of_nonneg (by omega)]; omega
  have EV := Lib.hid (show evV tc = 16 by unfold evV; rw [show tc % 4 = 2 by omega]; rfl)
  have ON := Lib.hid (show tc / 4 % 2 = 0 by omega)
  obtain ⟨wt, hwt⟩ : ∃ c : Int, c = ((f0 : Int) + k) / 16 - (f0 : Int) / 16 := ⟨_, rfl⟩
  obtain ⟨q1, hq1⟩ : ∃ c : Int, c = ((f0 : Int) + k) / 16 := ⟨_, rfl⟩
  obtain ⟨q0, hq0⟩ : ∃ c : Int, c = (f0 : Int) / 16 := ⟨_, rfl⟩
  have hw1 : ((f0 : Int) + k).tdiv 16 = q1 := by rw [Int.tdiv_eq_ediv_of_nonneg (by omega)]; exact hq1.symm
  have hw0 : (f0 : Int).tdiv 16 = q0 := by rw [Int.tdiv_eq_ediv_of_nonneg (by omega)]; exact hq0.symm
  have hw2 : q1 - q0 = wt := by omega
  have q1b : 0 ≤ q1 ∧ q1 < 65536 := by omega
  have q0b : 0 ≤ q0 ∧ q0 < 65536 := by omega
  have q1l := q1b.1
  have q1u := q1b.2
  have q0l := q0b.1
  have q0u := q0b.2
  have c0l : 0 ≤ c0 := by omega
  have c0u : c0 < 65536 := by omega
  have tcl : 0 ≤ tc := by omega
  have tcu : tc < 256 := by omega
  have WT := Lib.hid hwt
  have C0 := Lib.hid hc0
  clear hk hf0 hc0 htc hwt hq1 hq0 q1b q0b g1 g2
  go_enter Tryd.func4, Tryd.ntmps4
  go_upto_region 1 with (fail)
  have B0 := Lib.hid BB.out
  go_wp2_with fail
  with_reducible refine (AW.out _ (TT.out.next B0.out).g).mono ?_
  rintro q_ w1 ⟨rfl, hb⟩
  have B1 := Lib.hid (vian HN.out B0.out hb)
  clear hb B0
  have T2 := Lib.hid (Has.new w1 #[.int .u16 c0, .int .u8 0, .int .u8 0, .int .u8 tc, .bool false] 27)
  have B2 := Lib.hid (vian HN.out B1.out (own1 w1 (.cells #[.int .u16 c0, .int .u8 0, .int .u8 0, .int .u8 tc, .bool false] 27)))
  have LT := Lib.hid (Nat.le_trans HN.out B1.out.size)
  go_upto_region 5 with (fail)
  generalize w1.alloc (.cells #[.int .u16 c0, .int .u8 0, .int .u8 0, .int .u8 tc, .bool false] 27) = w2 at T2 B2 ⊢
  generalize w1.heap.size = tb at T2 LT  ⊢
  clear B1
  obtain ⟨hc, hf⟩ := T2.out.out
  have B3 := Lib.hid (vian HN.out B2.out (own1 w2 (.cells #[.int .i64 256, .int .i64 4, .int .i64 16, .int .i64 64] 3)))
  have T3 := Lib.hid (T2.out.alloc (.cells #[.int .i64 256, .int .i64 4, .int .i64 16, .int .i64 64] 3))
  go_upto_region 6 with (fail)
  clear hc hf
  generalize w2.alloc (.cells #[.int .i64 256, .int .i64 4, .int .i64 16, .int .i64 64] 3) = w3 at B3 T3 ⊢
  clear B2 T2
  obtain ⟨hc, hf⟩ := T3.out.out
  go_upto_region 7 with (fail)
  go_quiet (fail)
  go_upto_region 8 with (fail)
  go_quiet (fail)
  clear hc hf
  go_wp2
  clear hkw e1 e2 e3 hfw hw1 hw0 hw2 q1l q1u q0l q0u b0 b1 b2
  go_loopg [45, 12, 13] k (fun g' i x y wr => ∃ (t : Nat) (l got : Int), t ≤ k ∧ g' + t = k ∧ i = .int .i64 t ∧ x = .int .i64 got ∧ y = .int .u8 l ∧ (0 ≤ l ∧ l < 256) ∧ got = 0 ∧ Below n_ W0 wr ∧ Has wr tb (clV (cntV (f0 + t) l tc)))
  case atStart =>
    refine ⟨0, 0, 0, by omega, by omega, rfl, rfl, rfl, by omega, by rfl, ?_, ?_⟩
    · exact vian HN.out B3.out (below_drewN (below_drewN (Below.refl _ _) _) _)
    · exact Has.below (w := w3) (show Has w3 tb (clV (cntV (f0 + 0) 0 tc)) by have := T3.out; rw [C0.out] at this; exact this) (below_drewN (below_drewN (Below.refl _ _) _) _)
  case round =>
    obtain ⟨t, l, got, ht, hg, rfl, rfl, rfl, hl, hgot, hB, hT⟩ := hrel
    have TG := Lib.hid hg
    have GT := Lib.hid hgot
    have LL := Lib.hid hl
    have B0 := Lib.hid hB
    obtain ⟨c1, hc1⟩ : ∃ c : Int, c = 4 * ((f0 + t : Nat) : Int) % 65536 := ⟨_, rfl⟩
    have T0 := Lib.hid (show Has wr tb #[.int .u16 c1, .int .u8 l, .int .u8 0, .int .u8 tc, .bool false] by rw [hc1]; exact hT)
    have C1 := Lib.hid hc1
    clear hgot hB hT hc1
    by_cases hlt : t < k
    · have l1 : (t : Int) < k := by omega
      have l0 : (0 : Int) ≤ t := by omega
      obtain ⟨c2, l2, d, o2, hst, hc2, hl2, wd, d0, d1, ho, hd1, hd0⟩ := cnt_step (f0 + t) l tc c1 16 C1.out EV.out LL.out (Or.inl ON.out)
      have lz := hl.1
      have lu := hl.2
      have g0 : 0 ≤ got := by have := GT.out; omega
      have gu : got ≤ 4000 := by have := GT.out; omega
      have l2z := hl2.1
      have l2u := hl2.2
      have GT' := Lib.hid (show got + d = 0 by have := GT.out; have := hd0 ON.out; omega)
      have DC := Lib.hid (fun W hG => pt_c ⟨c1, l, 0, tc, false⟩ ⟨c2, l2, 0, tc, o2⟩ ⟨by have := C1.out; dsimp only; omega, LL.out, by dsimp only; omega, by dsimp only; omega⟩ hst W hG)
      have WC := Lib.hid (fun W hG => pw_c ⟨c2, l2, 0, tc, true⟩ ⟨c2, 0, 0, tc, false⟩ 1 0 ⟨by dsimp only; omega, hl2, by dsimp only; omega, by dsimp only; omega⟩ (by omega) (by omega) rfl W hG)
      have C2 := Lib.hid hc2
      have L2 := Lib.hid hl2
      have HO := Lib.hid ho
      clear hst hc2 hl2 ho hd1 hd0 hg hl
      obtain ⟨hc, hf⟩ := T0.out.out
      go_wp2_with fail
      with_reducible refine (DC.out _ (TT.out.next B0.out).g).mono ?_
      rintro q_ w1 ⟨rfl, hb⟩
      have B1 := Lib.hid (vian HN.out B0.out hb)
      have T1 := Lib.hid (T0.out.below hb)
      clear hb hc hf B0 T0
      have B3 := Lib.hid (set5 B1.out tb LT.out (.int .u16 c2) (.int .u8 l2) (.int .u8 0) (.int .u8 tc) (.bool o2))
      have T3 := Lib.hid (T1.out.put5 (.int .u16 c2) (.int .u8 l2) (.int .u8 0) (.int .u8 tc) (.bool o2))
      obtain ⟨hc, hf⟩ := T1.out.out
      go_upto_region 12 with (fail)
      clear hc hf B1 T1
      generalize (World.setCell (World.setCell (World.setCell (World.setCell (World.setCell w1 ⟨tb, 0, none⟩ (.int .u16 c2)) ⟨tb, 1, none⟩ (.int .u8 l2)) ⟨tb, 2, none⟩ (.int .u8 0)) ⟨tb, 3, none⟩ (.int .u8 tc)) ⟨tb, 4, none⟩ (.bool o2)) = w3 at B3 T3 ⊢
      obtain ⟨hc, hf⟩ := T3.out.out
      cases o2 with
      | false =>
        go_wp2
        go_roundg (gk - 1)
        exact ⟨t + 1, l2, got + d, by omega, by have := TG.out; omega, by simp, rfl, rfl, L2.out, GT'.out, B3.out, Eq.mp (congrArg (Has _ tb) (show (#[.int .u16 c2, .int .u8 l2, .int .u8 0, .int .u8 tc, .bool false] : Array Value) = clV (cntV (f0 + (t + 1)) l2 tc) by rw [C2.out]; rfl)) T3.out⟩
        case measure => have := TG.out; omega
      | true =>
        go_wp2_with fail
        with_reducible refine (WC.out _ (TT.out.next B3.out).g).mono ?_
        rintro q_ w4 ⟨rfl, hb⟩
        have B4 := Lib.hid (vian HN.out B3.out hb)
        have T4 := Lib.hid (T3.out.below hb)
        clear hb hc hf B3 T3
        have B5 := Lib.hid (set5 B4.out tb LT.out (.int .u16 c2) (.int .u8 0) (.int .u8 0) (.int .u8 tc) (.bool false))
        have T5 := Lib.hid (T4.out.put5 (.int .u16 c2) (.int .u8 0) (.int .u8 0) (.int .u8 tc) (.bool false))
        obtain ⟨hc, hf⟩ := T4.out.out
        go_wp2
        go_roundg (gk - 1)
        exact ⟨t + 1, 0, got + d, by omega, by have := TG.out; omega, by simp, rfl, rfl, by decide, GT'.out, B5.out, Eq.mp (congrArg (Has _ tb) (show (#[.int .u16 c2, .int .u8 0, .int .u8 0, .int .u8 tc, .bool false] : Array Value) = clV (cntV (f0 + (t + 1)) 0 tc) by rw [C2.out]; rfl)) T5.out⟩
        case measure => have := TG.out; omega
    · have et : t = k := by omega
      subst et
      have eg : got = 0 := by have := GT.out; exact this
      subst eg
      rcases Bool.eq_false_or_eq_true ((0 : Int) == wt) with hq | hq
      all_goals
        go_wp2
        go_ret
        exact ⟨rfl, B0.out⟩
set_option maxHeartbeats 8000000 in
theorem cnt_21 (n0 n1 n2 : Nat) (b0 : n0 < 65536) (b1 : n1 < 256) (b2 : n2 < 65536) (g1 : n1 % 4 = 2) (g2 : n1 / 4 % 2 = 1) (w : World) (hglob : Glob w) : Calls Tryd.prog 4 #[.int .u16 n0, .int .u8 n1, .int .u16 n2] w fun q_ w' => q_ = .returned (.bool true) ∧ Below w.heap.size w w' := by
  suffices hall : ∀ (n_ : Nat) (W0 : World), n_ ≤ W0.heap.size → Below n_ W0 w → Tab n_ W0 → Calls Tryd.prog 4 #[.int .u16 n0, .int .u8 n1, .int .u16 n2] w fun q_ w' => q_ = .returned (.bool true) ∧ Below n_ W0 w' from hall _ _ (Nat.le_refl _) (Below.refl _ _) ⟨hglob.1, hglob⟩
  intro n_ W0 hn hB hT
  have HN := Lib.hid hn
  have BB := Lib.hid hB
  have TT := Lib.hid hT
  clear hn hB hT hglob
  have AW := Lib.hid awake_c
  have hnot : ∀ (x : Bool) (w : World), (Op.unary .not (.bool x)).run Tryd.prog w = .ok (.bool (!x)) w := fun _ _ => rfl
  obtain ⟨k, hk⟩ : ∃ k : Nat, k = n2 % 4000 := ⟨_, rfl⟩
  have hkw : (n2 : Int).tmod 4000 = (k : Int) := by rw [Int.tmod_eq_emod_of_nonneg (by omega)]; omega
  have hk2 : k < 4000 := by omega
  obtain ⟨f0, hf0⟩ : ∃ k : Nat, k = n0 / 4 := ⟨_, rfl⟩
  have hf2 : f0 < 16384 := by omega
  obtain ⟨c0, hc0⟩ : ∃ c : Int, c = 4 * (f0 : Int) % 65536 := ⟨_, rfl⟩
  have e1 : bits .andNot .u16 (n0 : Int) 3 = c0 := (w3not n0 (by omega) (by omega)).trans (by omega)
  obtain ⟨tc, htc⟩ : ∃ c : Int, c = (n1 : Int) % 8 := ⟨_, rfl⟩
  have e2 : bits .and .u8 (n1 : Int) 7 = tc := (and7 n1 (by omega) (by omega)).trans htc.symm
  have e3 : bits .and .u8 (n1 : Int) 3 = 2 := (and3 n1 (by omega) (by omega)).trans (by omega)
  have e4 : bits .and .u8 (n1 : Int) 4 = 4 := (and4 n1 (by omega) (by omega)).trans (by omega)
  have hfw : c0.tdiv 4 = (f0 : Int) := by rw [Int.tdiv_eq_ediv_of_nonneg (by omega)]; omega
  have EV := Lib.hid (show evV tc = 16 by unfold evV; rw [show tc % 4 = 2 by omega]; rfl)
  have ON := Lib.hid (show tc / 4 % 2 = 1 by omega)
  obtain ⟨wt, hwt⟩ : ∃ c : Int, c = ((f0 : Int) + k) / 16 - (f0 : Int) / 16 := ⟨_, rfl⟩
  obtain ⟨q1, hq1⟩ : ∃ c : Int, c = ((f0 : Int) + k) / 16 := ⟨_, rfl⟩
  obtain ⟨q0, hq0⟩ : ∃ c : Int, c = (f0 : Int) / 16 := ⟨_, rfl⟩
  have hw1 : ((f0 : Int) + k).tdiv 16 = q1 := by rw [Int.tdiv_eq_ediv_of_nonneg (by omega)]; exact hq1.symm
  have hw0 : (f0 : Int).tdiv 16 = q0 := by rw [Int.tdiv_eq_ediv_of_nonneg (by omega)]; exact hq0.symm
  have hw2 : q1 - q0 = wt := by omega
  have q1b : 0 ≤ q1 ∧ q1 < 65536 := by omega
  have q0b : 0 ≤ q0 ∧ q0 < 65536 := by omega
  have q1l := q1b.1
  have q1u := q1b.2
  have q0l := q0b.1
  have q0u := q0b.2
  have c0l : 0 ≤ c0 := by omega
  have c0u : c0 < 65536 := by omega
  have tcl : 0 ≤ tc := by omega
  have tcu : tc < 256 := by omega
  have WT := Lib.hid hwt
  have C0 := Lib.hid hc0
  clear hk hf0 hc0 htc hwt hq1 hq0 q1b q0b g1 g2
  go_enter Tryd.func4, Tryd.ntmps4
  go_upto_region 1 with (fail)
  have B0 := Lib.hid BB.out
  go_wp2_with fail
  with_reducible refine (AW.out _ (TT.out.next B0.out).g).mono ?_
  rintro q_ w1 ⟨rfl, hb⟩
  have B1 := Lib.hid (vian HN.out B0.out hb)
  clear hb B0
  have T2 := Lib.hid (Has.new w1 #[.int .u16 c0, .int .u8 0, .int .u8 0, .int .u8 tc, .bool false] 27)
  have B2 := Lib.hid (vian HN.out B1.out (own1 w1 (.cells #[.int .u16 c0, .int .u8 0, .int .u8 0, .int .u8 tc, .bool false] 27)))
  have LT := Lib.hid (Nat.le_trans HN.out B1.out.size)
  go_upto_region 5 with (fail)
  generalize w1.alloc (.cells #[.int .u16 c0, .int .u8 0, .int .u8 0, .int .u8 tc, .bool false] 27) = w2 at T2 B2 ⊢
  generalize w1.heap.size = tb at T2 LT  ⊢
  clear B1
  obtain ⟨hc, hf⟩ := T2.out.out
  have B3 := Lib.hid (vian HN.out B2.out (own1 w2 (.cells #[.int .i64 256, .int .i64 4, .int .i64 16, .int .i64 64] 3)))
  have T3 := Lib.hid (T2.out.alloc (.cells #[.int .i64 256, .int .i64 4, .int .i64 16, .int .i64 64] 3))
  go_upto_region 6 with (fail)
  clear hc hf
  generalize w2.alloc (.cells #[.int .i64 256, .int .i64 4, .int .i64 16, .int .i64 64] 3) = w3 at B3 T3 ⊢
  clear B2 T2
  obtain ⟨hc, hf⟩ := T3.out.out
  go_upto_region 7 with (fail)
  go_quiet (fail)
  go_upto_region 8 with (fail)
  go_quiet (fail)
  clear hc hf
  go_wp2
  clear hkw e1 e2 e3 hfw hw1 hw0 hw2 q1l q1u q0l q0u b0 b1 b2
  go_loopg [45, 12, 13] k (fun g' i x y wr => ∃ (t : Nat) (l got : Int), t ≤ k ∧ g' + t = k ∧ i = .int .i64 t ∧ x = .int .i64 got ∧ y = .int .u8 l ∧ (0 ≤ l ∧ l < 256) ∧ got = ((f0 : Int) + t) / 16 - (f0 : Int) / 16 ∧ Below n_ W0 wr ∧ Has wr tb (clV (cntV (f0 + t) l tc)))
  case atStart =>
    refine ⟨0, 0, 0, by omega, by omega, rfl, rfl, rfl, by omega, by omega, ?_, ?_⟩
    · exact vian HN.out B3.out (below_drewN (below_drewN (Below.refl _ _) _) _)
    · exact Has.below (w := w3) (show Has w3 tb (clV (cntV (f0 + 0) 0 tc)) by have := T3.out; rw [C0.out] at this; exact this) (below_drewN (below_drewN (Below.refl _ _) _) _)
  case round =>
    obtain ⟨t, l, got, ht, hg, rfl, rfl, rfl, hl, hgot, hB, hT⟩ := hrel
    have TG := Lib.hid hg
    have GT := Lib.hid hgot
    have LL := Lib.hid hl
    have B0 := Lib.hid hB
    obtain ⟨c1, hc1⟩ : ∃ c : Int, c = 4 * ((f0 + t : Nat) : Int) % 65536 := ⟨_, rfl⟩
    have T0 := Lib.hid (show Has wr tb #[.int .u16 c1, .int .u8 l, .int .u8 0, .int .u8 tc, .bool false] by rw [hc1]; exact hT)
    have C1 := Lib.hid hc1
    clear hgot hB hT hc1
    by_cases hlt : t < k
    · have l1 : (t : Int) < k := by omega
      have l0 : (0 : Int) ≤ t := by omega
      obtain ⟨c2, l2, d, o2, hst, hc2, hl2, wd, d0, d1, ho, hd1, hd0⟩ := cnt_step (f0 + t) l tc c1 16 C1.out EV.out LL.out (Or.inr ON.out)
      have lz := hl.1
      have lu := hl.2
      have g0 : 0 ≤ got := by have := GT.out; omega
      have gu : got ≤ 4000 := by have := GT.out; omega
      have l2z := hl2.1
      have l2u := hl2.2
      have GT' := Lib.hid (show got + d = ((f0 : Int) + (t + 1 : Nat)) / 16 - (f0 : Int) / 16 by have := GT.out; have := hd1 ON.out; omega)
      have DC := Lib.hid (fun W hG => pt_c ⟨c1, l, 0, tc, false⟩ ⟨c2, l2, 0, tc, o2⟩ ⟨by have := C1.out; dsimp only; omega, LL.out, by dsimp only; omega, by dsimp only; omega⟩ hst W hG)
      have WC := Lib.hid (fun W hG => pw_c ⟨c2, l2, 0, tc, true⟩ ⟨c2, 0, 0, tc, false⟩ 1 0 ⟨by dsimp only; omega, hl2, by dsimp only; omega, by dsimp only; omega⟩ (by omega) (by omega) rfl W hG)
      have C2 := Lib.hid hc2
      have L2 := Lib.hid hl2
      have HO := Lib.hid ho
      clear hst hc2 hl2 ho hd1 hd0 hg hl
      obtain ⟨hc, hf⟩ := T0.out.out
      go_wp2_with fail
      with_reducible refine (DC.out _ (TT.out.next B0.out).g).mono ?_
      rintro q_ w1 ⟨rfl, hb⟩
      have B1 := Lib.hid (vian HN.out B0.out hb)
      have T1 := Lib.hid (T0.out.below hb)
      clear hb hc hf B0 T0
      have B3 := Lib.hid (set5 B1.out tb LT.out (.int .u16 c2) (.int .u8 l2) (.int .u8 0) (.int .u8 tc) (.bool o2))
      have T3 := Lib.hid (T1.out.put5 (.int .u16 c2) (.int .u8 l2) (.int .u8 0) (.int .u8 tc) (.bool o2))
      obtain ⟨hc, hf⟩ := T1.out.out
      go_upto_region 12 with (fail)
      clear hc hf B1 T1
      generalize (World.setCell (World.setCell (World.setCell (World.setCell (World.setCell w1 ⟨tb, 0, none⟩ (.int .u16 c2)) ⟨tb, 1, none⟩ (.int .u8 l2)) ⟨tb, 2, none⟩ (.int .u8 0)) ⟨tb, 3, none⟩ (.int .u8 tc)) ⟨tb, 4, none⟩ (.bool o2)) = w3 at B3 T3 ⊢
      obtain ⟨hc, hf⟩ := T3.out.out
      cases o2 with
      | false =>
        go_wp2
        go_roundg (gk - 1)
        exact ⟨t + 1, l2, got + d, by omega, by have := TG.out; omega, by simp, rfl, rfl, L2.out, GT'.out, B3.out, Eq.mp (congrArg (Has _ tb) (show (#[.int .u16 c2, .int .u8 l2, .int .u8 0, .int .u8 tc, .bool false] : Array Value) = clV (cntV (f0 + (t + 1)) l2 tc) by rw [C2.out]; rfl)) T3.out⟩
        case measure => have := TG.out; omega
      | true =>
        go_wp2_with fail
        with_reducible refine (WC.out _ (TT.out.next B3.out).g).mono ?_
        rintro q_ w4 ⟨rfl, hb⟩
        have B4 := Lib.hid (vian HN.out B3.out hb)
        have T4 := Lib.hid (T3.out.below hb)
        clear hb hc hf B3 T3
        have B5 := Lib.hid (set5 B4.out tb LT.out (.int .u16 c2) (.int .u8 0) (.int .u8 0) (.int .u8 tc) (.bool false))
        have T5 := Lib.hid (T4.out.put5 (.int .u16 c2) (.int .u8 0) (.int .u8 0) (.int .u8 tc) (.bool false))
        obtain ⟨hc, hf⟩ := T4.out.out
        go_wp2
        go_roundg (gk - 1)
        exact ⟨t + 1, 0, got + d, by omega, by have := TG.out; omega, by simp, rfl, rfl, by decide, GT'.out, B5.out, Eq.mp (congrArg (Has _ tb) (show (#[.int .u16 c2, .int .u8 0, .int .u8 0, .int .u8 tc, .bool false] : Array Value) = clV (cntV (f0 + (t + 1)) 0 tc) by rw [C2.out]; rfl)) T5.out⟩
        case measure => have := TG.out; omega
    · have et : t = k := by omega
      subst et
      have eg : got = wt := by have := GT.out; rw [this]; exact WT.out.symm
      subst eg
      go_wp2
      go_ret
      exact ⟨rfl, B0.out⟩
set_option maxHeartbeats 8000000 in
theorem cnt_30 (n0 n1 n2 : Nat) (b0 : n0 < 65536) (b1 : n1 < 256) (b2 : n2 < 65536) (g1 : n1 % 4 = 3) (g2 : n1 / 4 % 2 = 0) (w : World) (hglob : Glob w) : Calls Tryd.prog 4 #[.int .u16 n0, .int .u8 n1, .int .u16 n2] w fun q_ w' => q_ = .returned (.bool true) ∧ Below w.heap.size w w' := by
  suffices hall : ∀ (n_ : Nat) (W0 : World), n_ ≤ W0.heap.size → Below n_ W0 w → Tab n_ W0 → Calls Tryd.prog 4 #[.int .u16 n0, .int .u8 n1, .int .u16 n2] w fun q_ w' => q_ = .returned (.bool true) ∧ Below n_ W0 w' from hall _ _ (Nat.le_refl _) (Below.refl _ _) ⟨hglob.1, hglob⟩
  intro n_ W0 hn hB hT
  have HN := Lib.hid hn
  have BB := Lib.hid hB
  have TT := Lib.hid hT
  clear hn hB hT hglob
  have AW := Lib.hid awake_c
  have hnot : ∀ (x : Bool) (w : World), (Op.unary .not (.bool x)).run Tryd.prog w = .ok (.bool (!x)) w := fun _ _ => rfl
  obtain ⟨k, hk⟩ : ∃ k : Nat, k = n2 % 4000 := ⟨_, rfl⟩
  have hkw : (n2 : Int).tmod 4000 = (k : Int) := by rw [Int.tmod_eq_emod_of_nonneg (by omega)]; omega
  have hk2 : k < 4000 := by omega
  obtain ⟨f0, hf0⟩ : ∃ k : Nat, k = n0 / 4 := ⟨_, rfl⟩
  have hf2 : f0 < 16384 := by omega
  obtain ⟨c0, hc0⟩ : ∃ c : Int, c = 4 * (f0 : Int) % 65536 := ⟨_, rfl⟩
  have e1 : bits .andNot .u16 (n0 : Int) 3 = c0 := (w3not n0 (by omega) (by omega)).trans (by omega)
  obtain ⟨tc, htc⟩ : ∃ c : Int, c = (n1 : Int) % 8 := ⟨_, rfl⟩
  have e2 : bits .and .u8 (n1 : Int) 7 = tc := (and7 n1 (by omega) (by omega)).trans htc.symm
  have e3 : bits .and .u8 (n1 : Int) 3 = 3 := (and3 n1 (by omega) (by omega)).trans (by omega)
  have e4 : bits .and .u8 (n1 : Int) 4 = 0 := (and4 n1 (by omega) (by omega)).trans (by omega)
  have hfw : c0.tdiv 4 = (f0 : Int) := by rw [Int.tdiv_eq_ediv_of_nonneg (by omega)]; omega
  have EV := Lib.hid (show evV tc = 64 by unfold evV; rw [show tc % 4 = 3 by omega]; rfl)
  have ON := Lib.hid (show tc / 4 % 2 = 0 by omega)
  obtain ⟨wt, hwt⟩ : ∃ c : Int, c = ((f0 : Int) + k) / 64 - (f0 : Int) / 64 := ⟨_, rfl⟩
  obtain ⟨q1, hq1⟩ : ∃ c : Int, c = ((f0 : Int) + k) / 64 := ⟨_, rfl⟩
  obtain ⟨q0, hq0⟩ : ∃ c : Int, c = (f0 : Int) / 64 := ⟨_, rfl⟩
  have hw1 : ((f0 : Int) + k).tdiv 64 = q1 := by rw [Int.tdiv_eq_ediv_of_nonneg (by omega)]; exact hq1.symm
  have hw0 : (f0 : Int).tdiv 64 = q0 := by rw [Int.tdiv_eq_ediv_of_nonneg (by omega)]; exact hq0.symm
  have hw2 : q1 - q0 = wt := by omega
  have q1b : 0 ≤ q1 ∧ q1 < 65536 := by omega
  have q0b : 0 ≤ q0 ∧ q0 < 65536 := by omega
  have q1l := q1b.1
  have q1u := q1b.2
  have q0l := q0b.1
  have q0u := q0b.2
  have c0l : 0 ≤ c0 := by omega
  have c0u : c0 < 65536 := by omega
  have tcl : 0 ≤ tc := by omega
  have tcu : tc < 256 := by omega
  have WT := Lib.hid hwt
  have C0 := Lib.hid hc0
  clear hk hf0 hc0 htc hwt hq1 hq0 q1b q0b g1 g2
  go_enter Tryd.func4, Tryd.ntmps4
  go_upto_region 1 with (fail)
  have B0 := Lib.hid BB.out
  go_wp2_with fail
  with_reducible refine (AW.out _ (TT.out.next B0.out).g).mono ?_
  rintro q_ w1 ⟨rfl, hb⟩
  have B1 := Lib.hid (vian HN.out B0.out hb)
  clear hb B0
  have T2 := Lib.hid (Has.new w1 #[.int .u16 c0, .int .u8 0, .int .u8 0, .int .u8 tc, .bool false] 27)
  have B2 := Lib.hid (vian HN.out B1.out (own1 w1 (.cells #[.int .u16 c0, .int .u8 0, .int .u8 0, .int .u8 tc, .bool false] 27)))
  have LT := Lib.hid (Nat.le_trans HN.out B1.out.size)
  go_upto_region 5 with (fail)
  generalize w1.alloc (.cells #[.int .u16 c0, .int .u8 0, .int .u8 0, .int .u8 tc, .bool false] 27) = w2 at T2 B2 ⊢
  generalize w1.heap.size = tb at T2 LT  ⊢
  clear B1
  obtain ⟨hc, hf⟩ := T2.out.out
  have B3 := Lib.hid (vian HN.out B2.out (own1 w2 (.cells #[.int .i64 256, .int .i64 4, .int .i64 16, .int .i64 64] 3)))
  have T3 := Lib.hid (T2.out.alloc (.cells #[.int .i64 256, .int .i64 4, .int .i64 16, .int .i64 64] 3))
  go_upto_region 6 with (fail)
  clear hc hf
  generalize w2.alloc (.cells #[.int .i64 256, .int .i64 4, .int .i64 16, .int .i64 64] 3) = w3 at B3 T3 ⊢
  clear B2 T2
  obtain ⟨hc, hf⟩ := T3.out.out
  go_upto_region 7 with (fail)
  go_quiet (fail)
  go_upto_region 8 with (fail)
  go_quiet (fail)
  clear hc hf
  go_wp2
  clear hkw e1 e2 e3 hfw hw1 hw0 hw2 q1l q1u q0l q0u b0 b1 b2
  go_loopg [45, 12, 13] k (fun g' i x y wr => ∃ (t : Nat) (l got : Int), t ≤ k ∧ g' + t = k ∧ i = .int .i64 t ∧ x = .int .i64 got ∧ y = .int .u8 l ∧ (0 ≤ l ∧ l < 256) ∧ got = 0 ∧ Below n_ W0 wr ∧ Has wr tb (clV (cntV (f0 + t) l tc)))
  case atStart =>
    refine ⟨0, 0, 0, by omega, by omega, rfl, rfl, rfl, by omega, by rfl, ?_, ?_⟩
    · exact vian HN.out B3.out (below_drewN (below_drewN (Below.refl _ _) _) _)
    · exact Has.below (w := w3) (show Has w3 tb (clV (cntV (f0 + 0) 0 tc)) by have := T3.out; rw [C0.out] at this; exact this) (below_drewN (below_drewN (Below.refl _ _) _) _)
  case round =>
    obtain ⟨t, l, got, ht, hg, rfl, rfl, rfl, hl, hgot, hB, hT⟩ := hrel
    have TG := Lib.hid hg
    have GT := Lib.hid hgot
    have LL := Lib.hid hl
    have B0 := Lib.hid hB
    obtain ⟨c1, hc1⟩ : ∃ c : Int, c = 4 * ((f0 + t : Nat) : Int) % 65536 := ⟨_, rfl⟩
    have T0 := Lib.hid (show Has wr tb #[.int .u16 c1, .int .u8 l, .int .u8 0, .int .u8 tc, .bool false] by rw [hc1]; exact hT)
    have C1 := Lib.hid hc1
    clear hgot hB hT hc1
    by_cases hlt : t < k
    · have l1 : (t : Int) < k := by omega
      have l0 : (0 : Int) ≤ t := by omega
      obtain ⟨c2, l2, d, o2, hst, hc2, hl2, wd, d0, d1, ho, hd1, hd0⟩ := cnt_step (f0 + t) l tc c1 64 C1.out EV.out LL.out (Or.inl ON.out)
      have lz := hl.1
      have lu := hl.2
      have g0 : 0 ≤ got := by have := GT.out; omega
      have gu : got ≤ 4000 := by have := GT.out; omega
      have l2z := hl2.1
      have l2u := hl2.2
      have GT' := Lib.hid (show got + d = 0 by have := GT.out; have := hd0 ON.out; omega)
      have DC := Lib.hid (fun W hG => pt_c ⟨c1, l, 0, tc, false⟩ ⟨c2, l2, 0, tc, o2⟩ ⟨by have := C1.out; dsimp only; omega, LL.out, by dsimp only; omega, by dsimp only; omega⟩ hst W hG)
      have WC := Lib.hid (fun W hG => pw_c ⟨c2, l2, 0, tc, true⟩ ⟨c2, 0, 0, tc, false⟩ 1 0 ⟨by dsimp only; omega, hl2, by dsimp only; omega, by dsimp only; omega⟩ (by omega) (by omega) rfl W hG)
      have C2 := Lib.hid hc2
      have L2 := Lib.hid hl2
      have HO := Lib.hid ho
      clear hst hc2 hl2 ho hd1 hd0 hg hl
      obtain ⟨hc, hf⟩ := T0.out.out
      go_wp2_with fail
      with_reducible refine (DC.out _ (TT.out.next B0.out).g).mono ?_
      rintro q_ w1 ⟨rfl, hb⟩
      have B1 := Lib.hid (vian HN.out B0.out hb)
      have T1 := Lib.hid (T0.out.below hb)
      clear hb hc hf B0 T0
      have B3 := Lib.hid (set5 B1.out tb LT.out (.int .u16 c2) (.int .u8 l2) (.int .u8 0) (.int .u8 tc) (.bool o2))
      have T3 := Lib.hid (T1.out.put5 (.int .u16 c2) (.int .u8 l2) (.int .u8 0) (.int .u8 tc) (.bool o2))
      obtain ⟨hc, hf⟩ := T1.out.out
      go_upto_region 12 with (fail)
      clear hc hf B1 T1
      generalize (World.setCell (World.setCell (World.setCell (World.setCell (World.setCell w1 ⟨tb, 0, none⟩ (.int .u16 c2)) ⟨tb, 1, none⟩ (.int .u8 l2)) ⟨tb, 2, none⟩ (.int .u8 0)) ⟨tb, 3, none⟩ (.int .u8 tc)) ⟨tb, 4, none⟩ (.bool o2)) = w3 at B3 T3 ⊢
      obtain ⟨hc, hf⟩ := T3.out.out
      cases o2 with
      | false =>
        go_wp2
        go_roundg (gk - 1)
        exact ⟨t + 1, l2, got + d, by omega, by have := TG.out; omega, by simp, rfl, rfl, L2.out, GT'.out, B3.out, Eq.mp (congrArg (Has _ tb) (show (#[.int .u16 c2, .int .u8 l2, .int .u8 0, .int .u8 tc, .bool false] : Array Value) = clV (cntV (f0 + (t + 1)) l2 tc) by rw [C2.out]; rfl)) T3.out⟩
        case measure => have := TG.out; omega
      | true =>
        go_wp2_with fail
        with_reducible refine (WC.out _ (TT.out.next B3.out).g).mono ?_
        rintro q_ w4 ⟨rfl, hb⟩
        have B4 := Lib.hid (vian HN.out B3.out hb)
        have T4 := Lib.hid (T3.out.below hb)
        clear hb hc hf B3 T3
        have B5 := Lib.hid (set5 B4.out tb LT.out (.int .u16 c2) (.int .u8 0) (.int .u8 0) (.int .u8 tc) (.bool false))
        have T5 := Lib.hid (T4.out.put5 (.int .u16 c2) (.int .u8 0) (.int .u8 0) (.int .u8 tc) (.bool false))
        obtain ⟨hc, hf⟩ := T4.out.out
        go_wp2
        go_roundg (gk - 1)
        exact ⟨t + 1, 0, got + d, by omega, by have := TG.out; omega, by simp, rfl, rfl, by decide, GT'.out, B5.out, Eq.mp (congrArg (Has _ tb) (show (#[.int .u16 c2, .int .u8 0, .int .u8 0, .int .u8 tc, .bool false] : Array Value) = clV (cntV (f0 + (t + 1)) 0 tc) by rw [C2.out]; rfl)) T5.out⟩
        case measure => have := TG.out; omega
    · have et : t = k := by omega
      subst et
      have eg : got = 0 := by have := GT.out; exact this
      subst eg
      rcases Bool.eq_false_or_eq_true ((0 : Int) == wt) with hq | hq
      all_goals
        go_wp2
        go_ret
        exact ⟨rfl, B0.out⟩
set_option maxHeartbeats 8000000 in
theorem cnt_31 (n0 n1 n2 : Nat) (b0 : n0 < 65536) (b1 : n1 < 256) (b2 : n2 < 65536) (g1 : n1 % 4 = 3) (g2 : n1 / 4 % 2 = 1) (w : World) (hglob : Glob w) : Calls Tryd.prog 4 #[.int .u16 n0, .int .u8 n1, .int .u16 n2] w fun q_ w' => q_ = .returned (.bool true) ∧ Below w.heap.size w w' := by
  suffices hall : ∀ (n_ : Nat) (W0 : World), n_ ≤ W0.heap.size → Below n_ W0 w → Tab n_ W0 → Calls Tryd.prog 4 #[.int .u16 n0, .int .u8 n1, .int .u16 n2] w fun q_ w' => q_ = .returned (.bool true) ∧ Below n_ W0 w' from hall _ _ (Nat.le_refl _) (Below.refl _ _) ⟨hglob.1, hglob⟩
  intro n_ W0 hn hB hT
  have HN := Lib.hid hn
  have BB := Lib.hid hB
  have TT := Lib.hid hT
  clear hn hB hT hglob
  have AW := Lib.hid awake_c
  have hnot : ∀ (x : Bool) (w : World), (Op.unary .not (.bool x)).run Tryd.prog w = .ok (.bool (!x)) w := fun _ _ => rfl
  obtain ⟨k, hk⟩ : ∃ k : Nat, k = n2 % 4000 := ⟨_, rfl⟩
  have hkw : (n2 : Int).tmod 4000 = (k : Int) := by rw [Int.tmod_eq_emod_of_nonneg (by omega)]; omega
  have hk2 : k < 4000 := by omega
  obtain ⟨f0, hf0⟩ : ∃ k : Nat, k = n0 / 4 := ⟨_, rfl⟩
  have hf2 : f0 < 16384 := by omega
  obtain ⟨c0, hc0⟩ : ∃ c : Int, c = 4 * (f0 : Int) % 65536 := ⟨_, rfl⟩
  have e1 : bits .andNot .u16 (n0 : Int) 3 = c0 := (w3not n0 (by omega) (by omega)).trans (by omega)
  obtain ⟨tc, htc⟩ : ∃ c : Int, c = (n1 : Int) % 8 := ⟨_, rfl⟩
  have e2 : bits .and .u8 (n1 : Int) 7 = tc := (and7 n1 (by omega) (by omega)).trans htc.symm
  have e3 : bits .and .u8 (n1 : Int) 3 = 3 := (and3 n1 (by omega) (by omega)).trans (by omega)
  have e4 : bits .and .u8 (n1 : Int) 4 = 4 := (and4 n1 (by omega) (by omega)).trans (by omega)
  have hfw : c0.tdiv 4 = (f0 : Int) := by rw [Int.tdiv_eq_ediv_of_nonneg (by omega)]; omega
  have EV := Lib.hid (show evV tc = 64 by unfold evV; rw [show tc % 4 = 3 by omega]; rfl)
  have ON := Lib.hid (show tc / 4 % 2 = 1 by omega)
  obtain ⟨wt, hwt⟩ : ∃ c : Int, c = ((f0 : Int) + k) / 64 - (f0 : Int) / 64 := ⟨_, rfl⟩
  obtain ⟨q1, hq1⟩ : ∃ c : Int, c = ((f0 : Int) + k) / 64 := ⟨_, rfl⟩
  obtain ⟨q0, hq0⟩ : ∃ c : Int, c = (f0 : Int) / 64 := ⟨_, rfl⟩
  have hw1 : ((f0 : Int) + k).tdiv 64 = q1 := by rw [Int.tdiv_eq_ediv_of_nonneg (by omega)]; exact hq1.symm
  have hw0 : (f0 : Int).tdiv 64 = q0 := by rw [Int.tdiv_eq_ediv_of_nonneg (by omega)]; exact hq0.symm
  have hw2 : q1 - q0 = wt := by omega
  have q1b : 0 ≤ q1 ∧ q1 < 65536 := by omega
  have q0b : 0 ≤ q0 ∧ q0 < 65536 := by omega
  have q1l := q1b.1
  have q1u := q1b.2
  have q0l := q0b.1
  have q0u := q0b.2
  have c0l : 0 ≤ c0 := by omega
  have c0u : c0 < 65536 := by omega
  have tcl : 0 ≤ tc := by omega
  have tcu : tc < 256 := by omega
  have WT := Lib.hid hwt
  have C0 := Lib.hid hc0
  clear hk hf0 hc0 htc hwt hq1 hq0 q1b q0b g1 g2
  go_enter Tryd.func4, Tryd.ntmps4
  go_upto_region 1 with (fail)
  have B0 := Lib.hid BB.out
  go_wp2_with fail
  with_reducible refine (AW.out _ (TT.out.next B0.out).g).mono ?_
  rintro q_ w1 ⟨rfl, hb⟩
  have B1 := Lib.hid (vian HN.out B0.out hb)
  clear hb B0
  have T2 := Lib.hid (Has.new w1 #[.int .u16 c0, .int .u8 0, .int .u8 0, .int .u8 tc, .bool false] 27)
  have B2 := Lib.hid (vian HN.out B1.out (own1 w1 (.cells #[.int .u16 c0, .int .u8 0, .int .u8 0, .int .u8 tc, .bool false] 27)))
  have LT := Lib.hid (Nat.le_trans HN.out B1.out.size)
  go_upto_region 5 with (fail)
  generalize w1.alloc (.cells #[.int .u16 c0, .int .u8 0, .int .u8 0, .int .u8 tc, .bool false] 27) = w2 at T2 B2 ⊢
  generalize w1.heap.size = tb at T2 LT  ⊢
  clear B1
  obtain ⟨hc, hf⟩ := T2.out.out
  have B3 := Lib.hid (vian HN.out B2.out (own1 w2 (.cells #[.int .i64 256, .int .i64 4, .int .i64 16, .int .i64 64] 3)))
  have T3 := Lib.hid (T2.out.alloc (.cells #[.int .i64 256, .int .i64 4, .int .i64 16, .int .i64 64] 3))
  go_upto_region 6 with (fail)
  clear hc hf
  generalize w2.alloc (.cells #[.int .i64 256, .int .i64 4, .int .i64 16, .int .i64 64] 3) = w3 at B3 T3 ⊢
  clear B2 T2
  obtain ⟨hc, hf⟩ := T3.out.out
  go_upto_region 7 with (fail)
  go_quiet (fail)
  go_upto_region 8 with (fail)
  go_quiet (fail)
  clear hc hf
  go_wp2
  clear hkw e1 e2 e3 hfw hw1 hw0 hw2 q1l q1u q0l q0u b0 b1 b2
  go_loopg [45, 12, 13] k (fun g' i x y wr => ∃ (t : Nat) (l got : Int), t ≤ k ∧ g' + t = k ∧ i = .int .i64 t ∧ x = .int .i64 got ∧ y = .int .u8 l ∧ (0 ≤ l ∧ l < 256) ∧ got = ((f0 : Int) + t) / 64 - (f0 : Int) / 64 ∧ Below n_ W0 wr ∧ Has wr tb (clV (cntV (f0 + t) l tc)))
  case atStart =>
    refine ⟨0, 0, 0, by omega, by omega, rfl, rfl, rfl, by omega, by omega, ?_, ?_⟩
    · exact vian HN.out B3.out (below_drewN (below_drewN (Below.refl _ _) _) _)
    · exact Has.below (w := w3) (show Has w3 tb (clV (cntV (f0 + 0) 0 tc)) by have := T3.out; rw [C0.out] at this; exact this) (below_drewN (below_drewN (Below.refl _ _) _) _)
  case round =>
    obtain ⟨t, l, got, ht, hg, rfl, rfl, rfl, hl, hgot, hB, hT⟩ := hrel
    have TG := Lib.hid hg
    have GT := Lib.hid hgot
    have LL := Lib.hid hl
    have B0 := Lib.hid hB
    obtain ⟨c1, hc1⟩ : ∃ c : Int, c = 4 * ((f0 + t : Nat) : Int) % 65536 := ⟨_, rfl⟩
    have T0 := Lib.hid (show Has wr tb #[.int .u16 c1, .int .u8 l, .int .u8 0, .int .u8 tc, .bool false] by rw [hc1]; exact hT)
    have C1 := Lib.hid hc1
    clear hgot hB hT hc1
    by_cases hlt : t < k
    · have l1 : (t : Int) < k := by omega
      have l0 : (0 : Int) ≤ t := by omega
      obtain ⟨c2, l2, d, o2, hst, hc2, hl2, wd, d0, d1, ho, hd1, hd0⟩ := cnt_step (f0 + t) l tc c1 64 C1.out EV.out LL.out (Or.inr ON.out)
      have lz := hl.1
      have lu := hl.2
      have g0 : 0 ≤ got := by have := GT.out; omega
      have gu : got ≤ 4000 := by have := GT.out; omega
      have l2z := hl2.1
      have l2u := hl2.2
      have GT' := Lib.hid (show got + d = ((f0 : Int) + (t + 1 : Nat)) / 64 - (f0 : Int) / 64 by have := GT.out; have := hd1 ON.out; omega)
      have DC := Lib.hid (fun W hG => pt_c ⟨c1, l, 0, tc, false⟩ ⟨c2, l2, 0, tc, o2⟩ ⟨by have := C1.out; dsimp only; omega, LL.out, by dsimp only; omega, by dsimp only; omega⟩ hst W hG)
      have WC := Lib.hid (fun W hG => pw_c ⟨c2, l2, 0, tc, true⟩ ⟨c2, 0, 0, tc, false⟩ 1 0 ⟨by dsimp only; omega, hl2, by dsimp only; omega, by dsimp only; omega⟩ (by omega) (by omega) rfl W hG)
      have C2 := Lib.hid hc2
      have L2 := Lib.hid hl2
      have HO := Lib.hid ho
      clear hst hc2 hl2 ho hd1 hd0 hg hl
      obtain ⟨hc, hf⟩ := T0.out.out
      go_wp2_with fail
      with_reducible refine (DC.out _ (TT.out.next B0.out).g).mono ?_
      rintro q_ w1 ⟨rfl, hb⟩
      have B1 := Lib.hid (vian HN.out B0.out hb)
      have T1 := Lib.hid (T0.out.below hb)
      clear hb hc hf B0 T0
      have B3 := Lib.hid (set5 B1.out tb LT.out (.int .u16 c2) (.int .u8 l2) (.int .u8 0) (.int .u8 tc) (.bool o2))
      have T3 := Lib.hid (T1.out.put5 (.int .u16 c2) (.int .u8 l2) (.int .u8 0) (.int .u8 tc) (.bool o2))
      obtain ⟨hc, hf⟩ := T1.out.out
      go_upto_region 12 with (fail)
      clear hc hf B1 T1
      generalize (World.setCell (World.setCell (World.setCell (World.setCell (World.setCell w1 ⟨tb, 0, none⟩ (.int .u16 c2)) ⟨tb, 1, none⟩ (.int .u8 l2)) ⟨tb, 2, none⟩ (.int .u8 0)) ⟨tb, 3, none⟩ (.int .u8 tc)) ⟨tb, 4, none⟩ (.bool o2)) = w3 at B3 T3 ⊢
      obtain ⟨hc, hf⟩ := T3.out.out
      cases o2 with
      | false =>
        go_wp2
        go_roundg (gk - 1)
        exact ⟨t + 1, l2, got + d, by omega, by have := TG.out; omega, by simp, rfl, rfl, L2.out, GT'.out, B3.out, Eq.mp (congrArg (Has _ tb) (show (#[.int .u16 c2, .int .u8 l2, .int .u8 0, .int .u8 tc, .bool false] : Array Value) = clV (cntV (f0 + (t + 1)) l2 tc) by rw [C2.out]; rfl)) T3.out⟩
        case measure => have := TG.out; omega
      | true =>
        go_wp2_with fail
        with_reducible refine (WC.out _ (TT.out.next B3.out).g).mono ?_
        rintro q_ w4 ⟨rfl, hb⟩
        have B4 := Lib.hid (vian HN.out B3.out hb)
        have T4 := Lib.hid (T3.out.below hb)
        clear hb hc hf B3 T3
        have B5 := Lib.hid (set5 B4.out tb LT.out (.int .u16 c2) (.int .u8 0) (.int .u8 0) (.int .u8 tc) (.bool false))
        have T5 := Lib.hid (T4.out.put5 (.int .u16 c2) (.int .u8 0) (.int .u8 0) (.int .u8 tc) (.bool false))
        obtain ⟨hc, hf⟩ := T4.out.out
        go_wp2
        go_roundg (gk - 1)
        exact ⟨t + 1, 0, got + d, by omega, by have := TG.out; omega, by simp, rfl, rfl, by decide, GT'.out, B5.out, Eq.mp (congrArg (Has _ tb) (show (#[.int .u16 c2, .int .u8 0, .int .u8 0, .int .u8 tc, .bool false] : Array Value) = clV (cntV (f0 + (t + 1)) 0 tc) by rw [C2.out]; rfl)) T5.out⟩
        case measure => have := TG.out; omega
    · have et : t = k := by omega
      subst et
      have eg : got = wt := by have := GT.out; rw [this]; exact WT.out.symm
      subst eg
      go_wp2
      go_ret
      exact ⟨rfl, B0.out⟩
theorem counts_walk (n0 n1 n2 : Nat) (b0 : n0 < 65536) (b1 : n1 < 256) (b2 : n2 < 65536) (w : World) (hG : Glob w) : Calls Tryd.prog 4 #[.int .u16 n0, .int .u8 n1, .int .u16 n2] w fun q_ w' => q_ = .returned (.bool true) ∧ Below w.heap.size w w' := by
  rcases (by omega : n1 % 4 = 0 ∨ n1 % 4 = 1 ∨ n1 % 4 = 2 ∨ n1 % 4 = 3) with g | g | g | g
  · rcases (by omega : n1 / 4 % 2 = 0 ∨ n1 / 4 % 2 = 1) with h | h
    · exact cnt_00 n0 n1 n2 b0 b1 b2 g h w hG
    · exact cnt_01 n0 n1 n2 b0 b1 b2 g h w hG
  · rcases (by omega : n1 / 4 % 2 = 0 ∨ n1 / 4 % 2 = 1) with h | h
    · exact cnt_10 n0 n1 n2 b0 b1 b2 g h w hG
    · exact cnt_11 n0 n1 n2 b0 b1 b2 g h w hG
  · rcases (by omega : n1 / 4 % 2 = 0 ∨ n1 / 4 % 2 = 1) with h | h
    · exact cnt_20 n0 n1 n2 b0 b1 b2 g h w hG
    · exact cnt_21 n0 n1 n2 b0 b1 b2 g h w hG
  · rcases (by omega : n1 / 4 % 2 = 0 ∨ n1 / 4 % 2 = 1) with h | h
    · exact cnt_30 n0 n1 n2 b0 b1 b2 g h w hG
    · exact cnt_31 n0 n1 n2 b0 b1 b2 g h w hG
end Go.Proofs.YtjjmnjkmfkcdoaaDoor
