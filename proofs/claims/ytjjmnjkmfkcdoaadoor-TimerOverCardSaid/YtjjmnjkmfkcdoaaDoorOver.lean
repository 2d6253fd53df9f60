/-
  The walk through TimerOver: for every numbers; no condition but that the table lies as it is laid.
-/
import Derived.Test.YtjjmnjkmfkcdoaaDoorOvS
import Derived.Deep.Cut
import Derived.Deep.LoopGhost
import Derived.BigQuiet
namespace Go.Proofs.YtjjmnjkmfkcdoaaDoor
open Go.ChangeShapes Go.WideShapes Go.ChangeAt Go.RowKit
set_option linter.unusedVariables false
set_option linter.unusedSimpArgs false
set_option maxRecDepth 100000
set_option maxHeartbeats 8000000 in
theorem over_1 (n0 n1 n3 E : Nat) (b0 : n0 < 256) (b1 : n1 < 256) (b3 : n3 < 256) (hE : evV (4 + (n1 : Int) % 4) = E) (hE2 : E ≤ 256) (hE3 : 0 < E) (w : World) (hglob : Glob w) : Calls Tryd.prog 5 #[.int .u8 n0, .int .u8 n1, .bool true, .int .u8 n3] w fun q_ w' => q_ = .returned (.bool true) ∧ Below w.heap.size w w' := by
  suffices hall : ∀ (n_ : Nat) (W0 : World), n_ ≤ W0.heap.size → Below n_ W0 w → Tab n_ W0 → Calls Tryd.prog 5 #[.int .u8 n0, .int .u8 n1, .bool true, .int .u8 n3] w fun q_ w' => q_ = .returned (.bool true) ∧ Below n_ W0 w' from hall _ _ (Nat.le_refl _) (Below.refl _ _) ⟨hglob.1, hglob⟩
  intro n_ W0 hn hB hT
  have HN := Lib.hid hn
  have BB := Lib.hid hB
  have TT := Lib.hid hT
  clear hn hB hT hglob
  have AW := Lib.hid awake_c
  have hnot : ∀ (x : Bool) (w : World), (Op.unary .not (.bool x)).run Tryd.prog w = .ok (.bool (!x)) w := fun _ _ => rfl
  obtain ⟨tc, htc⟩ : ∃ c : Int, c = 4 + (n1 : Int) % 4 := ⟨_, rfl⟩
  have e2 : bits .and .u8 (n1 : Int) 3 = (n1 : Int) % 4 := and3 n1 (by omega) (by omega)
  have e3 : bits .or .u8 4 ((n1 : Int) % 4) = tc := (or4 _ (by omega) (by omega)).trans htc.symm
  have EV := Lib.hid (show evV tc = E from htc ▸ hE)
  have ON := Lib.hid (show tc / 4 % 2 = 1 by omega)
  have TC := Lib.hid (show 0 ≤ tc ∧ tc < 256 by omega)
  have N0 := Lib.hid (show 0 ≤ (n0 : Int) ∧ (n0 : Int) < 256 by omega)
  have N3 := Lib.hid (show 0 ≤ (n3 : Int) ∧ (n3 : Int) < 256 by omega)
  clear htc hE
  go_enter Tryd.func5, Tryd.ntmps5
  go_upto_region 1 with (fail)
  have B0 := Lib.hid BB.out
  go_wp2_with fail
  with_reducible refine (AW.out _ (TT.out.next B0.out).g).mono ?_
  rintro q_ w1 ⟨rfl, hb⟩
  have B1 := Lib.hid (vian HN.out B0.out hb)
  clear hb B0
  have T2 := Lib.hid (Has.new w1 #[.int .u16 0, .int .u8 255, .int .u8 n0, .int .u8 tc, .bool false] 27)
  have B2 := Lib.hid (vian HN.out B1.out (own1 w1 (.cells #[.int .u16 0, .int .u8 255, .int .u8 n0, .int .u8 tc, .bool false] 27)))
  have LT := Lib.hid (Nat.le_trans HN.out B1.out.size)
  go_upto_region 4 with (fail)
  generalize w1.alloc (.cells #[.int .u16 0, .int .u8 255, .int .u8 n0, .int .u8 tc, .bool false] 27) = w2 at T2 B2 ⊢
  generalize w1.heap.size = tb at T2 LT  ⊢
  clear B1
  go_wp2
  clear e2 e3
  go_loopg [10, 11] E (fun g' i y wr => ∃ (t : Nat) (a : Int) (o : Bool), t ≤ E ∧ g' + t = E ∧ i = .int .i64 t ∧ y = .bool false ∧ ((t < E ∧ a = 255 ∧ o = false) ∨ (t = E ∧ a = 0 ∧ o = true)) ∧ Below n_ W0 wr ∧ Has wr tb #[.int .u16 (4 * (t : Int)), .int .u8 a, .int .u8 n0, .int .u8 tc, .bool o])
  case atStart => exact ⟨0, 255, false, by omega, by omega, rfl, rfl, Or.inl ⟨hE3, rfl, rfl⟩, B2.out, T2.out⟩
  case round =>
    obtain ⟨t, a, o, hte, hg, rfl, rfl, hcase, hB, hT⟩ := hrel
    have TG := Lib.hid hg
    have B0 := Lib.hid hB
    obtain ⟨c1, hc1⟩ : ∃ c : Int, c = 4 * (t : Int) := ⟨_, rfl⟩
    have T0 := Lib.hid (show Has wr tb #[.int .u16 c1, .int .u8 a, .int .u8 n0, .int .u8 tc, .bool o] by rw [hc1]; exact hT)
    have C1 := Lib.hid hc1
    have l1 : (t : Int) < 400 := by omega
    have l0 : (0 : Int) ≤ t := by omega
    clear hB hT B2 T2
    rcases hcase with ⟨ht, rfl, rfl⟩ | ⟨ht, rfl, rfl⟩
    · have TE := Lib.hid ht
      obtain ⟨c2, a2, o2, hst, hc2, hway⟩ := over_step t n0 tc c1 E hc1 (by omega) EV.out ON.out
      have DC := Lib.hid (fun W hG => pt_c ⟨c1, 255, n0, tc, false⟩ ⟨c2, a2, n0, tc, o2⟩ ⟨by have := C1.out; dsimp only; omega, by dsimp only; omega, N0.out, TC.out⟩ hst W hG)
      have C2 := Lib.hid hc2
      have WAY := Lib.hid (show (t + 1 < E ∧ a2 = 255 ∧ o2 = false) ∨ (t + 1 = E ∧ a2 = 0 ∧ o2 = true) from by
        rcases hway with h | h
        · exact Or.inr ⟨by omega, h.2.1, h.2.2⟩
        · exact Or.inl ⟨by omega, h.2.1, h.2.2⟩)
      clear hc1 hst hc2 hg ht hway hte
      obtain ⟨hc, hf⟩ := T0.out.out
      go_wp2_with fail
      with_reducible refine (DC.out _ (TT.out.next B0.out).g).mono ?_
      rintro q_ w1 ⟨rfl, hb⟩
      have B1 := Lib.hid (vian HN.out B0.out hb)
      have T1 := Lib.hid (T0.out.below hb)
      clear hb hc hf B0 T0
      have B3 := Lib.hid (set5 B1.out tb LT.out (.int .u16 c2) (.int .u8 a2) (.int .u8 n0) (.int .u8 tc) (.bool o2))
      have T3 := Lib.hid (T1.out.put5 (.int .u16 c2) (.int .u8 a2) (.int .u8 n0) (.int .u8 tc) (.bool o2))
      obtain ⟨hc, hf⟩ := T1.out.out
      go_wp2
      go_roundg (gk - 1)
      exact ⟨t + 1, a2, o2, by have := TE.out; omega, by have := TG.out; have := TE.out; omega, by simp, rfl, WAY.out, B3.out, Eq.mp (congrArg (Has _ tb) (show (#[.int .u16 c2, .int .u8 a2, .int .u8 n0, .int .u8 tc, .bool o2] : Array Value) = #[.int .u16 (4 * ((t + 1 : Nat) : Int)), .int .u8 a2, .int .u8 n0, .int .u8 tc, .bool o2] by rw [C2.out])) T3.out⟩
      case measure => have := TG.out; have := TE.out; omega
    · have TE := Lib.hid ht
      clear hc1 hg ht hte
      have WC := Lib.hid (fun W hG => pw_c ⟨c1, 0, n0, tc, true⟩ ⟨c1, n3, n0, tc, false⟩ 1 n3 ⟨by have := C1.out; dsimp only; omega, by dsimp only; omega, N0.out, TC.out⟩ N3.out.1 N3.out.2 rfl W hG)
      obtain ⟨c4, hc4⟩ := over_next n3 n0 tc c1 E false (by have := C1.out; have := TE.out; omega) EV.out ON.out
      have OKR : RowKit.Hid (TV.ok ⟨c1, n3, n0, tc, false⟩) := Lib.hid ⟨by have := C1.out; dsimp only; omega, N3.out, N0.out, TC.out⟩
      have NC := Lib.hid (fun W hG => pt_c ⟨c1, n3, n0, tc, false⟩ ⟨c4, n3, n0, tc, false⟩ OKR.out hc4 W hG)
      clear hc4
      obtain ⟨hc, hf⟩ := T0.out.out
      go_wp2_with fail
      with_reducible refine (WC.out _ (TT.out.next B0.out).g).mono ?_
      rintro q_ w4 ⟨rfl, hb⟩
      have B4 := Lib.hid (vian HN.out B0.out hb)
      have T4 := Lib.hid (T0.out.below hb)
      clear hb hc hf B0 T0
      have B5 := Lib.hid (set5 B4.out tb LT.out (.int .u16 c1) (.int .u8 n3) (.int .u8 n0) (.int .u8 tc) (.bool false))
      have T5 := Lib.hid (T4.out.put5 (.int .u16 c1) (.int .u8 n3) (.int .u8 n0) (.int .u8 tc) (.bool false))
      obtain ⟨hc, hf⟩ := T4.out.out
      go_upto_region 14 with (fail)
      clear hc hf B4 T4
      generalize (World.setCell (World.setCell (World.setCell (World.setCell (World.setCell w4 ⟨tb, 0, none⟩ (.int .u16 c1)) ⟨tb, 1, none⟩ (.int .u8 n3)) ⟨tb, 2, none⟩ (.int .u8 n0)) ⟨tb, 3, none⟩ (.int .u8 tc)) ⟨tb, 4, none⟩ (.bool false)) = w5 at B5 T5 ⊢
      obtain ⟨hc, hf⟩ := T5.out.out
      go_wp2_with fail
      with_reducible refine (NC.out _ (TT.out.next B5.out).g).mono ?_
      rintro q_ w6 ⟨rfl, hb⟩
      have B6 := Lib.hid (vian HN.out B5.out hb)
      clear hb hc hf B5 T5
      have U7 := Lib.hid (Has.new w6 #[.int .u16 c4, .int .u8 n3, .int .u8 n0, .int .u8 tc, .bool false] 27)
      have B7 := Lib.hid (vian HN.out B6.out (own1 w6 (.cells #[.int .u16 c4, .int .u8 n3, .int .u8 n0, .int .u8 tc, .bool false] 27)))
      go_upto_region 15 with (fail)
      generalize w6.alloc (.cells #[.int .u16 c4, .int .u8 n3, .int .u8 n0, .int .u8 tc, .bool false] 27) = w7 at U7 B7 ⊢
      generalize w6.heap.size = ub at U7 ⊢
      obtain ⟨hc, hf⟩ := U7.out.out
      go_wp2
      go_ret
      exact ⟨rfl, B7.out⟩
set_option maxHeartbeats 8000000 in
theorem over_0 (n0 n1 n3 E : Nat) (b0 : n0 < 256) (b1 : n1 < 256) (b3 : n3 < 256) (hE : evV (4 + (n1 : Int) % 4) = E) (hE2 : E ≤ 256) (hE3 : 0 < E) (w : World) (hglob : Glob w) : Calls Tryd.prog 5 #[.int .u8 n0, .int .u8 n1, .bool false, .int .u8 n3] w fun q_ w' => q_ = .returned (.bool true) ∧ Below w.heap.size w w' := by
  suffices hall : ∀ (n_ : Nat) (W0 : World), n_ ≤ W0.heap.size → Below n_ W0 w → Tab n_ W0 → Calls Tryd.prog 5 #[.int .u8 n0, .int .u8 n1, .bool false, .int .u8 n3] w fun q_ w' => q_ = .returned (.bool true) ∧ Below n_ W0 w' from hall _ _ (Nat.le_refl _) (Below.refl _ _) ⟨hglob.1, hglob⟩
  intro n_ W0 hn hB hT
  have HN := Lib.hid hn
  have BB := Lib.hid hB
  have TT := Lib.hid hT
  clear hn hB hT hglob
  have AW := Lib.hid awake_c
  have hnot : ∀ (x : Bool) (w : World), (Op.unary .not (.bool x)).run Tryd.prog w = .ok (.bool (!x)) w := fun _ _ => rfl
  obtain ⟨tc, htc⟩ : ∃ c : Int, c = 4 + (n1 : Int) % 4 := ⟨_, rfl⟩
  have e2 : bits .and .u8 (n1 : Int) 3 = (n1 : Int) % 4 := and3 n1 (by omega) (by omega)
  have e3 : bits .or .u8 4 ((n1 : Int) % 4) = tc := (or4 _ (by omega) (by omega)).trans htc.symm
  have EV := Lib.hid (show evV tc = E from htc ▸ hE)
  have ON := Lib.hid (show tc / 4 % 2 = 1 by omega)
  have TC := Lib.hid (show 0 ≤ tc ∧ tc < 256 by omega)
  have N0 := Lib.hid (show 0 ≤ (n0 : Int) ∧ (n0 : Int) < 256 by omega)
  have N3 := Lib.hid (show 0 ≤ (n3 : Int) ∧ (n3 : Int) < 256 by omega)
  clear htc hE
  go_enter Tryd.func5, Tryd.ntmps5
  go_upto_region 1 with (fail)
  have B0 := Lib.hid BB.out
  go_wp2_with fail
  with_reducible refine (AW.out _ (TT.out.next B0.out).g).mono ?_
  rintro q_ w1 ⟨rfl, hb⟩
  have B1 := Lib.hid (vian HN.out B0.out hb)
  clear hb B0
  have T2 := Lib.hid (Has.new w1 #[.int .u16 0, .int .u8 255, .int .u8 n0, .int .u8 tc, .bool false] 27)
  have B2 := Lib.hid (vian HN.out B1.out (own1 w1 (.cells #[.int .u16 0, .int .u8 255, .int .u8 n0, .int .u8 tc, .bool false] 27)))
  have LT := Lib.hid (Nat.le_trans HN.out B1.out.size)
  go_upto_region 4 with (fail)
  generalize w1.alloc (.cells #[.int .u16 0, .int .u8 255, .int .u8 n0, .int .u8 tc, .bool false] 27) = w2 at T2 B2 ⊢
  generalize w1.heap.size = tb at T2 LT  ⊢
  clear B1
  go_wp2
  clear e2 e3
  go_loopg [10, 11] E (fun g' i y wr => ∃ (t : Nat) (a : Int) (o : Bool), t ≤ E ∧ g' + t = E ∧ i = .int .i64 t ∧ y = .bool false ∧ ((t < E ∧ a = 255 ∧ o = false) ∨ (t = E ∧ a = 0 ∧ o = true)) ∧ Below n_ W0 wr ∧ Has wr tb #[.int .u16 (4 * (t : Int)), .int .u8 a, .int .u8 n0, .int .u8 tc, .bool o])
  case atStart => exact ⟨0, 255, false, by omega, by omega, rfl, rfl, Or.inl ⟨hE3, rfl, rfl⟩, B2.out, T2.out⟩
  case round =>
    obtain ⟨t, a, o, hte, hg, rfl, rfl, hcase, hB, hT⟩ := hrel
    have TG := Lib.hid hg
    have B0 := Lib.hid hB
    obtain ⟨c1, hc1⟩ : ∃ c : Int, c = 4 * (t : Int) := ⟨_, rfl⟩
    have T0 := Lib.hid (show Has wr tb #[.int .u16 c1, .int .u8 a, .int .u8 n0, .int .u8 tc, .bool o] by rw [hc1]; exact hT)
    have C1 := Lib.hid hc1
    have l1 : (t : Int) < 400 := by omega
    have l0 : (0 : Int) ≤ t := by omega
    clear hB hT B2 T2
    rcases hcase with ⟨ht, rfl, rfl⟩ | ⟨ht, rfl, rfl⟩
    · have TE := Lib.hid ht
      obtain ⟨c2, a2, o2, hst, hc2, hway⟩ := over_step t n0 tc c1 E hc1 (by omega) EV.out ON.out
      have DC := Lib.hid (fun W hG => pt_c ⟨c1, 255, n0, tc, false⟩ ⟨c2, a2, n0, tc, o2⟩ ⟨by have := C1.out; dsimp only; omega, by dsimp only; omega, N0.out, TC.out⟩ hst W hG)
      have C2 := Lib.hid hc2
      have WAY := Lib.hid (show (t + 1 < E ∧ a2 = 255 ∧ o2 = false) ∨ (t + 1 = E ∧ a2 = 0 ∧ o2 = true) from by
        rcases hway with h | h
        · exact Or.inr ⟨by omega, h.2.1, h.2.2⟩
        · exact Or.inl ⟨by omega, h.2.1, h.2.2⟩)
      clear hc1 hst hc2 hg ht hway hte
      obtain ⟨hc, hf⟩ := T0.out.out
      go_wp2_with fail
      with_reducible refine (DC.out _ (TT.out.next B0.out).g).mono ?_
      rintro q_ w1 ⟨rfl, hb⟩
      have B1 := Lib.hid (vian HN.out B0.out hb)
      have T1 := Lib.hid (T0.out.below hb)
      clear hb hc hf B0 T0
      have B3 := Lib.hid (set5 B1.out tb LT.out (.int .u16 c2) (.int .u8 a2) (.int .u8 n0) (.int .u8 tc) (.bool o2))
      have T3 := Lib.hid (T1.out.put5 (.int .u16 c2) (.int .u8 a2) (.int .u8 n0) (.int .u8 tc) (.bool o2))
      obtain ⟨hc, hf⟩ := T1.out.out
      go_wp2
      go_roundg (gk - 1)
      exact ⟨t + 1, a2, o2, by have := TE.out; omega, by have := TG.out; have := TE.out; omega, by simp, rfl, WAY.out, B3.out, Eq.mp (congrArg (Has _ tb) (show (#[.int .u16 c2, .int .u8 a2, .int .u8 n0, .int .u8 tc, .bool o2] : Array Value) = #[.int .u16 (4 * ((t + 1 : Nat) : Int)), .int .u8 a2, .int .u8 n0, .int .u8 tc, .bool o2] by rw [C2.out])) T3.out⟩
      case measure => have := TG.out; have := TE.out; omega
    · have TE := Lib.hid ht
      clear hc1 hg ht hte
      have WC := Lib.hid (fun W hG => pw_c ⟨c1, 0, n0, tc, true⟩ ⟨c1, 0, n3, tc, true⟩ 2 n3 ⟨by have := C1.out; dsimp only; omega, by dsimp only; omega, N0.out, TC.out⟩ N3.out.1 N3.out.2 rfl W hG)
      obtain ⟨c4, hc4⟩ := over_next 0 n3 tc c1 E true (by have := C1.out; have := TE.out; omega) EV.out ON.out
      have OKR : RowKit.Hid (TV.ok ⟨c1, 0, n3, tc, true⟩) := Lib.hid ⟨by have := C1.out; dsimp only; omega, by dsimp only; omega, N3.out, TC.out⟩
      have NC := Lib.hid (fun W hG => pt_c ⟨c1, 0, n3, tc, true⟩ ⟨c4, n3, n3, tc, false⟩ OKR.out hc4 W hG)
      clear hc4
      obtain ⟨hc, hf⟩ := T0.out.out
      go_wp2_with fail
      with_reducible refine (WC.out _ (TT.out.next B0.out).g).mono ?_
      rintro q_ w4 ⟨rfl, hb⟩
      have B4 := Lib.hid (vian HN.out B0.out hb)
      have T4 := Lib.hid (T0.out.below hb)
      clear hb hc hf B0 T0
      have B5 := Lib.hid (set5 B4.out tb LT.out (.int .u16 c1) (.int .u8 0) (.int .u8 n3) (.int .u8 tc) (.bool true))
      have T5 := Lib.hid (T4.out.put5 (.int .u16 c1) (.int .u8 0) (.int .u8 n3) (.int .u8 tc) (.bool true))
      obtain ⟨hc, hf⟩ := T4.out.out
      go_upto_region 17 with (fail)
      clear hc hf B4 T4
      generalize (World.setCell (World.setCell (World.setCell (World.setCell (World.setCell w4 ⟨tb, 0, none⟩ (.int .u16 c1)) ⟨tb, 1, none⟩ (.int .u8 0)) ⟨tb, 2, none⟩ (.int .u8 n3)) ⟨tb, 3, none⟩ (.int .u8 tc)) ⟨tb, 4, none⟩ (.bool true)) = w5 at B5 T5 ⊢
      obtain ⟨hc, hf⟩ := T5.out.out
      go_wp2_with fail
      with_reducible refine (NC.out _ (TT.out.next B5.out).g).mono ?_
      rintro q_ w6 ⟨rfl, hb⟩
      have B6 := Lib.hid (vian HN.out B5.out hb)
      clear hb hc hf B5 T5
      have U7 := Lib.hid (Has.new w6 #[.int .u16 c4, .int .u8 n3, .int .u8 n3, .int .u8 tc, .bool false] 27)
      have B7 := Lib.hid (vian HN.out B6.out (own1 w6 (.cells #[.int .u16 c4, .int .u8 n3, .int .u8 n3, .int .u8 tc, .bool false] 27)))
      go_upto_region 18 with (fail)
      generalize w6.alloc (.cells #[.int .u16 c4, .int .u8 n3, .int .u8 n3, .int .u8 tc, .bool false] 27) = w7 at U7 B7 ⊢
      generalize w6.heap.size = ub at U7 ⊢
      obtain ⟨hc, hf⟩ := U7.out.out
      go_wp2
      go_ret
      exact ⟨rfl, B7.out⟩
theorem over_walk (n0 n1 : Nat) (x : Bool) (n3 : Nat) (b0 : n0 < 256) (b1 : n1 < 256) (b3 : n3 < 256) (w : World) (hG : Glob w) : Calls Tryd.prog 5 #[.int .u8 n0, .int .u8 n1, .bool x, .int .u8 n3] w fun q_ w' => q_ = .returned (.bool true) ∧ Below w.heap.size w w' := by
  obtain ⟨E, hE, hE2, hE3⟩ : ∃ E : Nat, evV (4 + (n1 : Int) % 4) = E ∧ E ≤ 256 ∧ 0 < E := by
    rcases ev_cases (4 + (n1 : Int) % 4) with h | h | h | h
    · exact ⟨256, h, by decide, by decide⟩
    · exact ⟨4, h, by decide, by decide⟩
    · exact ⟨16, h, by decide, by decide⟩
    · exact ⟨64, h, by decide, by decide⟩
  cases x with
  | true => exact over_1 n0 n1 n3 E b0 b1 b3 hE hE2 hE3 w hG
  | false => exact over_0 n0 n1 n3 E b0 b1 b3 hE hE2 hE3 w hG
end Go.Proofs.YtjjmnjkmfkcdoaaDoor
