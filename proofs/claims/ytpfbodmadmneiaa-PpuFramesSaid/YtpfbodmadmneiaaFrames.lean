/-
  The walk through PpuFrames: for every number of cycles and byte; no condition but that each number fits.
-/
import Derived.Test.YtpfbodmadmneiaaAw
import Derived.Test.YtpfbodmadmneiaaSu
import Derived.Deep.Cut
import Derived.BigQuiet
import Derived.WalkSmall
import Derived.Deep.LoopGhost
import Derived.Deep.DeepCutAuto
import Derived.Deep.CutBlock
import Derived.Laws.StructEq
namespace Go.Proofs.Ytpfbodmadmneiaa
open Go.ChangeShapes Go.WideShapes Go.ChangeAt Go.RowKit
set_option linter.unusedVariables false
set_option linter.unusedSimpArgs false
set_option maxRecDepth 100000
theorem eq_i64 (d : Nat) (x : Int) (w : World) : (Op.equalIn (d + 1) 3 (.int .i64 x) (.int .i64 x)).run Try.prog w = .ok true w := by
  rw [run_equalIn_int w d 3 .i64 .i64 x x Try.underlying3]; simp
theorem eq_four (a b c d : Int) (w : World) : (Op.equalIn 10000 50 (.agg #[.int .i64 a, .int .i64 b, .int .i64 c, .int .i64 d]) (.agg #[.int .i64 a, .int .i64 b, .int .i64 c, .int .i64 d])).run Try.prog w = .ok true w :=
  eq_array 9999 50 4 3 _ 1 Try.underlying50 (fun w => Try.sizeOf3 w) (fun i hi => match i, hi with
    | 0, _ => ⟨.int .i64 a, fun w => ⟨part_cell (fun w => Try.isAgg3 w) rfl w, eq_i64 9998 _ w⟩⟩
    | 1, _ => ⟨.int .i64 b, fun w => ⟨part_cell (fun w => Try.isAgg3 w) rfl w, eq_i64 9998 _ w⟩⟩
    | 2, _ => ⟨.int .i64 c, fun w => ⟨part_cell (fun w => Try.isAgg3 w) rfl w, eq_i64 9998 _ w⟩⟩
    | 3, _ => ⟨.int .i64 d, fun w => ⟨part_cell (fun w => Try.isAgg3 w) rfl w, eq_i64 9998 _ w⟩⟩) w
set_option maxHeartbeats 8000000 in
theorem frames_w (st c : Int) (st0 : 0 ≤ st) (st1 : st < 65536) (c0 : 0 ≤ c) (c1 : c < 256) (cv : Int) (hcv : bits .or .u8 128 (bits .and .u8 c 125) = cv) (g0 : 128 ≤ cv) (g1 : cv < 256) (N : Nat) (hN : st.tmod 3000 = N) (N1 : N < 3000) (m0 m1 : M) (e0 : writeM zeroM 65344 cv = m0) (e1 : itM N m0 = m1) (OK0 : Ok m0) (OK1 : Ok m1) (on0 : 128 ≤ m1 8352) (p : Nat) (hp : pos m1 = p) (L D : Int) (hL : m1 8356 = L) (hD : m1 8363 = D) (bL : 0 ≤ L ∧ L < 256) (bD : 0 ≤ D ∧ D < 256) (w : World) : Calls Try.prog 6 #[.int .u16 st, .int .u8 c] w fun q_ w' => q_ = .returned (.bool true) ∧ Below w.heap.size w w' := by
  suffices hall : ∀ (n_ : Nat) (W0 : World), n_ ≤ W0.heap.size → Below n_ W0 w → Calls Try.prog 6 #[.int .u16 st, .int .u8 c] w fun q_ w' => q_ = .returned (.bool true) ∧ Below n_ W0 w' from hall _ _ (Nat.le_refl _) (Below.refl _ _)
  intro n_ W0 hn hB
  have HN := Lib.hid hn
  obtain ⟨u0, hu0⟩ : ∃ u0, u0 = w := ⟨_, rfl⟩
  rw [← hu0]
  rw [← hu0] at hB
  have B0 := Lib.hid hB
  clear hn hB hu0
  have AW := Lib.hid awake_c
  have hnot : ∀ (x : Bool) (w : World), (Op.unary .not (.bool x)).run Try.prog w = .ok (.bool (!x)) w := fun _ _ => rfl
  have e0_ := Lib.hid e0
  clear e0
  have e1_ := Lib.hid e1
  clear e1
  have OK0_ := Lib.hid OK0
  clear OK0
  have OK1_ := Lib.hid OK1
  clear OK1
  have on0_ := Lib.hid on0
  clear on0
  have hp_ := Lib.hid hp
  clear hp
  have hL_ := Lib.hid hL
  clear hL
  have hD_ := Lib.hid hD
  clear hD
  go_enter Try.func6, Try.ntmps6
  go_wp2_with (fail)
  with_reducible refine (AW.out _).mono ?_
  rintro q_ u1 ⟨rfl, hb⟩
  have B1 := Lib.hid (vian HN.out B0.out hb)
  clear hb B0
  go_wp2_with (fail)
  with_reducible refine (new_c _).mono ?_
  rintro q_ u2 ⟨rfl, hP, hb⟩
  have B2 := Lib.hid (vian HN.out B1.out hb)
  have P2 := Lib.hid hP
  have LP := Lib.hid (Nat.le_trans HN.out B1.out.size)
  clear hb hP B1
  generalize u1.heap.size = pb at P2 LP  ⊢
  go_wp2_with (fail)
  with_reducible refine (write_c pb _ ok_zero 65344 (by decide) (by decide) cv (by omega) g1 _ P2.out).mono ?_
  rintro q_ u3 ⟨rfl, hP, hk⟩
  have P3 := Lib.hid hP
  have B3 := Lib.hid (hk.below HN.out LP.out B2.out)
  clear hP hk B2 P2
  rw [e0_.out] at P3
  go_wp2
  go_loopg [21] N (fun g' i wr => ∃ (t : Nat), t ≤ N ∧ g' + t = N ∧ i = .int .i64 t ∧ Below n_ W0 wr ∧ Has wr pb (encU (itM t m0)))
  case atStart => exact ⟨0, by omega, by omega, rfl, B3.out, by have := P3.out; rwa [it_zero]⟩
  case round =>
    obtain ⟨t, ht, hg, rfl, hB, hP⟩ := hrel
    have TG := Lib.hid hg
    clear hg
    have B4 := Lib.hid hB
    clear hB
    have P4 := Lib.hid hP
    clear hP
    clear B3 P3
    obtain ⟨u4, hu⟩ : ∃ q_, q_ = wr := ⟨_, rfl⟩
    subst hu
    by_cases hlt : t < N
    · have l1 : (t : Int) < N := by omega
      go_wp2_with (fail)
      with_reducible refine (tick_c pb _ (it_ok OK0_.out t) _ P4.out).mono ?_
      rintro q_ u5 ⟨rfl, hP, hk⟩
      have P5 := Lib.hid hP
      have B5 := Lib.hid (hk.below HN.out LP.out B4.out)
      clear hP hk B4 P4
      go_wp2
      go_roundg (gk - 1)
      · exact ⟨t + 1, by omega, by have := TG.out; omega, by simp, B5.out, by rw [it_succ]; exact P5.out⟩
      case measure => have := TG.out; omega
    · have et : t = N := by omega
      subst et
      rw [e1_.out] at P4
      clear ht hlt TG
      have Q_ := own1 u4 (.cells #[.int .i64 0, .int .i64 0, .int .i64 0, .int .i64 0] 50)
      have B5 := Lib.hid (vian HN.out B4.out Q_)
      have P5 := Lib.hid (P4.out.below Q_)
      have X5 := Lib.hid (Has.new u4 #[.int .i64 0, .int .i64 0, .int .i64 0, .int .i64 0] 50)
      have LX := Lib.hid (Nat.le_trans HN.out B4.out.size)
      have NPX := Lib.hid (Nat.ne_of_lt P4.out.1)
      clear Q_
      go_upto_region 11 with (fail)
      generalize u4.alloc (.cells #[.int .i64 0, .int .i64 0, .int .i64 0, .int .i64 0] 50) = u5 at B5 P5 X5 ⊢
      generalize u4.heap.size = xb at X5 LX NPX ⊢
      clear B4 P4
      go_wp2_with (fail)
      with_reducible refine (line_u pb _ L hL_.out bL.1 bL.2 _ P5.out).mono ?_
      rintro q_ w' ⟨rfl, rfl⟩
      go_wp2_with (fail)
      with_reducible refine (dot_u pb _ D hD_.out bD.1 bD.2 _ P5.out).mono ?_
      rintro q_ w' ⟨rfl, rfl⟩
      go_wp2
      go_loopg [7, 31] 17556 (fun g' bl i wr => ∃ (t : Nat), t ≤ 17556 ∧ g' + t = 17556 ∧ bl = .int .i64 ((cntN blN p t : Nat) : Int) ∧ i = .int .i64 t ∧ Below n_ W0 wr ∧ Has wr pb (encU (itM t m1)) ∧ Has wr xb #[.int .i64 ((cntN (isN 0) p t : Nat) : Int), .int .i64 ((cntN (isN 1) p t : Nat) : Int), .int .i64 ((cntN (isN 2) p t : Nat) : Int), .int .i64 ((cntN (isN 3) p t : Nat) : Int)])
      case atStart => exact ⟨0, by omega, by omega, by rw [cnt_zero]; rfl, rfl, B5.out, by have := P5.out; rwa [it_zero], by rw [cnt_zero, cnt_zero, cnt_zero, cnt_zero]; exact X5.out⟩
      case round =>
        obtain ⟨t, ht, hg, rfl, rfl, hB, hP, hX⟩ := hrel
        have TG := Lib.hid hg
        clear hg
        have B6 := Lib.hid hB
        clear hB
        have P6 := Lib.hid hP
        clear hP
        have X6 := Lib.hid hX
        clear hX
        clear B5 P5 X5
        obtain ⟨u6, hu⟩ : ∃ q_, q_ = wr := ⟨_, rfl⟩
        subst hu
        by_cases hlt : t < 17556
        · have l1 : (t : Int) < 17556 := by omega
          have okt := it_ok OK1_.out t
          have ont : 128 ≤ itM t m1 8352 := by rw [it_ctl]; exact on0_.out
          have qp := pos_nat1 OK1_.out on0_.out p hp_.out t
          rw [it_succ] at qp
          have qm := mode_nat (ok_tick okt) (by rw [← it_succ, it_ctl]; exact on0_.out) _ qp
          have qb := tick_blank okt ont _ qp
          obtain ⟨b0, hb0⟩ : ∃ b0, b0 = cntN blN p t := ⟨_, rfl⟩
          have kb : b0 ≤ t := by rw [hb0]; exact cnt_le _ blN_le p t
          have sb := cnt_succ blN p t
          rw [← hb0] at sb ⊢
          obtain ⟨x0, hx0⟩ : ∃ x, x = cntN (isN 0) p t := ⟨_, rfl⟩
          have kx0 : x0 ≤ t := by rw [hx0]; exact cnt_le _ (isN_le _) p t
          have sx0 := cnt_succ (isN 0) p t
          rw [← hx0] at sx0 X6
          obtain ⟨x1, hx1⟩ : ∃ x, x = cntN (isN 1) p t := ⟨_, rfl⟩
          have kx1 : x1 ≤ t := by rw [hx1]; exact cnt_le _ (isN_le _) p t
          have sx1 := cnt_succ (isN 1) p t
          rw [← hx1] at sx1 X6
          obtain ⟨x2, hx2⟩ : ∃ x, x = cntN (isN 2) p t := ⟨_, rfl⟩
          have kx2 : x2 ≤ t := by rw [hx2]; exact cnt_le _ (isN_le _) p t
          have sx2 := cnt_succ (isN 2) p t
          rw [← hx2] at sx2 X6
          obtain ⟨x3, hx3⟩ : ∃ x, x = cntN (isN 3) p t := ⟨_, rfl⟩
          have kx3 : x3 ≤ t := by rw [hx3]; exact cnt_le _ (isN_le _) p t
          have sx3 := cnt_succ (isN 3) p t
          rw [← hx3] at sx3 X6
          obtain ⟨q, hq⟩ : ∃ q, q = (p + 1 + t) % 17556 := ⟨_, rfl⟩
          rw [← hq] at qm qb sb sx0 sx1 sx2 sx3
          have hbl := blN_le q
          have hmd := modeN_bd q
          obtain ⟨r, hr⟩ : ∃ r, r = tickR (itM t m1) := ⟨_, rfl⟩
          rw [← hr] at qb
          obtain ⟨v, hv⟩ : ∃ v, v = modeN q := ⟨_, rfl⟩
          rw [← hv] at qm hmd
          have iv : ∀ k, isN k q = if v = k then 1 else 0 := fun k => by rw [hv]; rfl
          rw [iv] at sx0 sx1 sx2 sx3
          clear iv
          have OT := Lib.hid okt
          have HR := Lib.hid hr
          have QM := Lib.hid qm
          have SB := Lib.hid sb
          have S0 := Lib.hid sx0
          have S1 := Lib.hid sx1
          have S2 := Lib.hid sx2
          have S3 := Lib.hid sx3
          have QP := Lib.hid qp
          have OM := Lib.hid (ok_tick okt)
          clear okt ont qp qm sb sx0 sx1 sx2 sx3 hr hv hq hb0 hx0 hx1 hx2 hx3
          have tc := fun W hW => (tick_c pb (itM t m1) OT.out W hW)
          rw [← HR.out] at tc
          have TC := Lib.hid tc
          clear tc
          obtain ⟨z, hz⟩ : ∃ z, z = blN q := ⟨_, rfl⟩
          rw [← hz] at qb SB hbl
          clear hz
          have zz : z = 0 ∨ z = 1 := by omega
          have vv : v = 0 ∨ v = 1 ∨ v = 2 ∨ v = 3 := by omega
          rcases zz with rfl | rfl
          · rcases vv with rfl | rfl | rfl | rfl
            · have w1 : IntKind.i64.wrap ((b0 : Int) + 1) = (b0 : Int) + 1 := by rw [IntKind.wrap_i64]; omega
              have w20 : IntKind.i64.wrap ((x0 : Int) + 1) = (x0 : Int) + 1 := by rw [IntKind.wrap_i64]; omega
              have w21 : IntKind.i64.wrap ((x1 : Int) + 1) = (x1 : Int) + 1 := by rw [IntKind.wrap_i64]; omega
              have w22 : IntKind.i64.wrap ((x2 : Int) + 1) = (x2 : Int) + 1 := by rw [IntKind.wrap_i64]; omega
              have w23 : IntKind.i64.wrap ((x3 : Int) + 1) = (x3 : Int) + 1 := by rw [IntKind.wrap_i64]; omega
              have qb : (bits .and .u8 r 1 != 0) = false := by rw [qb]; rfl
              go_wp2_with (fail)
              with_reducible refine (TC.out _ P6.out).mono ?_
              rintro q_ u7 ⟨rfl, hP, hk⟩
              have P7 := Lib.hid hP
              have B7 := Lib.hid (hk.below HN.out LP.out B6.out)
              have X7 := Lib.hid (hk.has (Ne.symm NPX.out) X6.out)
              clear hP hk B6 P6 X6
              go_wp2_with (fail)
              with_reducible refine (modem_c pb _ OM.out 0 (QM.out.trans (by simp)) _ P7.out).mono ?_
              rintro q_ w' ⟨rfl, rfl⟩
              obtain ⟨hc, hf⟩ := X7.out.out
              go_wp2
              clear hc hf
              have X9 := Lib.hid (X7.out.set 0 (.int .i64 ((x0 : Int) + 1)) (by simp))
              have P9 := Lib.hid (P7.out.far ⟨xb, 0, none⟩ (.int .i64 ((x0 : Int) + 1)) (Ne.symm NPX.out))
              go_roundg (gk - 1)
              · refine ⟨t + 1, by omega, by have := TG.out; omega, by rw [SB.out]; simp, by simp, B7.out.setCell LX.out _, by rw [it_succ]; exact P9.out, ?_⟩
                have e := X9.out
                rw [S0.out, S1.out, S2.out, S3.out]
                simpa using e
              case measure => have := TG.out; omega
            · have w1 : IntKind.i64.wrap ((b0 : Int) + 1) = (b0 : Int) + 1 := by rw [IntKind.wrap_i64]; omega
              have w20 : IntKind.i64.wrap ((x0 : Int) + 1) = (x0 : Int) + 1 := by rw [IntKind.wrap_i64]; omega
              have w21 : IntKind.i64.wrap ((x1 : Int) + 1) = (x1 : Int) + 1 := by rw [IntKind.wrap_i64]; omega
              have w22 : IntKind.i64.wrap ((x2 : Int) + 1) = (x2 : Int) + 1 := by rw [IntKind.wrap_i64]; omega
              have w23 : IntKind.i64.wrap ((x3 : Int) + 1) = (x3 : Int) + 1 := by rw [IntKind.wrap_i64]; omega
              have qb : (bits .and .u8 r 1 != 0) = false := by rw [qb]; rfl
              go_wp2_with (fail)
              with_reducible refine (TC.out _ P6.out).mono ?_
              rintro q_ u7 ⟨rfl, hP, hk⟩
              have P7 := Lib.hid hP
              have B7 := Lib.hid (hk.below HN.out LP.out B6.out)
              have X7 := Lib.hid (hk.has (Ne.symm NPX.out) X6.out)
              clear hP hk B6 P6 X6
              go_wp2_with (fail)
              with_reducible refine (modem_c pb _ OM.out 1 (QM.out.trans (by simp)) _ P7.out).mono ?_
              rintro q_ w' ⟨rfl, rfl⟩
              obtain ⟨hc, hf⟩ := X7.out.out
              go_wp2
              clear hc hf
              have X9 := Lib.hid (X7.out.set 1 (.int .i64 ((x1 : Int) + 1)) (by simp))
              have P9 := Lib.hid (P7.out.far ⟨xb, 1, none⟩ (.int .i64 ((x1 : Int) + 1)) (Ne.symm NPX.out))
              go_roundg (gk - 1)
              · refine ⟨t + 1, by omega, by have := TG.out; omega, by rw [SB.out]; simp, by simp, B7.out.setCell LX.out _, by rw [it_succ]; exact P9.out, ?_⟩
                have e := X9.out
                rw [S0.out, S1.out, S2.out, S3.out]
                simpa using e
              case measure => have := TG.out; omega
            · have w1 : IntKind.i64.wrap ((b0 : Int) + 1) = (b0 : Int) + 1 := by rw [IntKind.wrap_i64]; omega
              have w20 : IntKind.i64.wrap ((x0 : Int) + 1) = (x0 : Int) + 1 := by rw [IntKind.wrap_i64]; omega
              have w21 : IntKind.i64.wrap ((x1 : Int) + 1) = (x1 : Int) + 1 := by rw [IntKind.wrap_i64]; omega
              have w22 : IntKind.i64.wrap ((x2 : Int) + 1) = (x2 : Int) + 1 := by rw [IntKind.wrap_i64]; omega
              have w23 : IntKind.i64.wrap ((x3 : Int) + 1) = (x3 : Int) + 1 := by rw [IntKind.wrap_i64]; omega
              have qb : (bits .and .u8 r 1 != 0) = false := by rw [qb]; rfl
              go_wp2_with (fail)
              with_reducible refine (TC.out _ P6.out).mono ?_
              rintro q_ u7 ⟨rfl, hP, hk⟩
              have P7 := Lib.hid hP
              have B7 := Lib.hid (hk.below HN.out LP.out B6.out)
              have X7 := Lib.hid (hk.has (Ne.symm NPX.out) X6.out)
              clear hP hk B6 P6 X6
              go_wp2_with (fail)
              with_reducible refine (modem_c pb _ OM.out 2 (QM.out.trans (by simp)) _ P7.out).mono ?_
              rintro q_ w' ⟨rfl, rfl⟩
              obtain ⟨hc, hf⟩ := X7.out.out
              go_wp2
              clear hc hf
              have X9 := Lib.hid (X7.out.set 2 (.int .i64 ((x2 : Int) + 1)) (by simp))
              have P9 := Lib.hid (P7.out.far ⟨xb, 2, none⟩ (.int .i64 ((x2 : Int) + 1)) (Ne.symm NPX.out))
              go_roundg (gk - 1)
              · refine ⟨t + 1, by omega, by have := TG.out; omega, by rw [SB.out]; simp, by simp, B7.out.setCell LX.out _, by rw [it_succ]; exact P9.out, ?_⟩
                have e := X9.out
                rw [S0.out, S1.out, S2.out, S3.out]
                simpa using e
              case measure => have := TG.out; omega
            · have w1 : IntKind.i64.wrap ((b0 : Int) + 1) = (b0 : Int) + 1 := by rw [IntKind.wrap_i64]; omega
              have w20 : IntKind.i64.wrap ((x0 : Int) + 1) = (x0 : Int) + 1 := by rw [IntKind.wrap_i64]; omega
              have w21 : IntKind.i64.wrap ((x1 : Int) + 1) = (x1 : Int) + 1 := by rw [IntKind.wrap_i64]; omega
              have w22 : IntKind.i64.wrap ((x2 : Int) + 1) = (x2 : Int) + 1 := by rw [IntKind.wrap_i64]; omega
              have w23 : IntKind.i64.wrap ((x3 : Int) + 1) = (x3 : Int) + 1 := by rw [IntKind.wrap_i64]; omega
              have qb : (bits .and .u8 r 1 != 0) = false := by rw [qb]; rfl
              go_wp2_with (fail)
              with_reducible refine (TC.out _ P6.out).mono ?_
              rintro q_ u7 ⟨rfl, hP, hk⟩
              have P7 := Lib.hid hP
              have B7 := Lib.hid (hk.below HN.out LP.out B6.out)
              have X7 := Lib.hid (hk.has (Ne.symm NPX.out) X6.out)
              clear hP hk B6 P6 X6
              go_wp2_with (fail)
              with_reducible refine (modem_c pb _ OM.out 3 (QM.out.trans (by simp)) _ P7.out).mono ?_
              rintro q_ w' ⟨rfl, rfl⟩
              obtain ⟨hc, hf⟩ := X7.out.out
              go_wp2
              clear hc hf
              have X9 := Lib.hid (X7.out.set 3 (.int .i64 ((x3 : Int) + 1)) (by simp))
              have P9 := Lib.hid (P7.out.far ⟨xb, 3, none⟩ (.int .i64 ((x3 : Int) + 1)) (Ne.symm NPX.out))
              go_roundg (gk - 1)
              · refine ⟨t + 1, by omega, by have := TG.out; omega, by rw [SB.out]; simp, by simp, B7.out.setCell LX.out _, by rw [it_succ]; exact P9.out, ?_⟩
                have e := X9.out
                rw [S0.out, S1.out, S2.out, S3.out]
                simpa using e
              case measure => have := TG.out; omega
          · rcases vv with rfl | rfl | rfl | rfl
            · have w1 : IntKind.i64.wrap ((b0 : Int) + 1) = (b0 : Int) + 1 := by rw [IntKind.wrap_i64]; omega
              have w20 : IntKind.i64.wrap ((x0 : Int) + 1) = (x0 : Int) + 1 := by rw [IntKind.wrap_i64]; omega
              have w21 : IntKind.i64.wrap ((x1 : Int) + 1) = (x1 : Int) + 1 := by rw [IntKind.wrap_i64]; omega
              have w22 : IntKind.i64.wrap ((x2 : Int) + 1) = (x2 : Int) + 1 := by rw [IntKind.wrap_i64]; omega
              have w23 : IntKind.i64.wrap ((x3 : Int) + 1) = (x3 : Int) + 1 := by rw [IntKind.wrap_i64]; omega
              have qb : (bits .and .u8 r 1 != 0) = true := by rw [qb]; rfl
              go_wp2_with (fail)
              with_reducible refine (TC.out _ P6.out).mono ?_
              rintro q_ u7 ⟨rfl, hP, hk⟩
              have P7 := Lib.hid hP
              have B7 := Lib.hid (hk.below HN.out LP.out B6.out)
              have X7 := Lib.hid (hk.has (Ne.symm NPX.out) X6.out)
              clear hP hk B6 P6 X6
              go_wp2_with (fail)
              with_reducible refine (modem_c pb _ OM.out 0 (QM.out.trans (by simp)) _ P7.out).mono ?_
              rintro q_ w' ⟨rfl, rfl⟩
              obtain ⟨hc, hf⟩ := X7.out.out
              go_wp2
              clear hc hf
              have X9 := Lib.hid (X7.out.set 0 (.int .i64 ((x0 : Int) + 1)) (by simp))
              have P9 := Lib.hid (P7.out.far ⟨xb, 0, none⟩ (.int .i64 ((x0 : Int) + 1)) (Ne.symm NPX.out))
              go_roundg (gk - 1)
              · refine ⟨t + 1, by omega, by have := TG.out; omega, by rw [SB.out]; simp, by simp, B7.out.setCell LX.out _, by rw [it_succ]; exact P9.out, ?_⟩
                have e := X9.out
                rw [S0.out, S1.out, S2.out, S3.out]
                simpa using e
              case measure => have := TG.out; omega
            · have w1 : IntKind.i64.wrap ((b0 : Int) + 1) = (b0 : Int) + 1 := by rw [IntKind.wrap_i64]; omega
              have w20 : IntKind.i64.wrap ((x0 : Int) + 1) = (x0 : Int) + 1 := by rw [IntKind.wrap_i64]; omega
              have w21 : IntKind.i64.wrap ((x1 : Int) + 1) = (x1 : Int) + 1 := by rw [IntKind.wrap_i64]; omega
              have w22 : IntKind.i64.wrap ((x2 : Int) + 1) = (x2 : Int) + 1 := by rw [IntKind.wrap_i64]; omega
              have w23 : IntKind.i64.wrap ((x3 : Int) + 1) = (x3 : Int) + 1 := by rw [IntKind.wrap_i64]; omega
              have qb : (bits .and .u8 r 1 != 0) = true := by rw [qb]; rfl
              go_wp2_with (fail)
              with_reducible refine (TC.out _ P6.out).mono ?_
              rintro q_ u7 ⟨rfl, hP, hk⟩
              have P7 := Lib.hid hP
              have B7 := Lib.hid (hk.below HN.out LP.out B6.out)
              have X7 := Lib.hid (hk.has (Ne.symm NPX.out) X6.out)
              clear hP hk B6 P6 X6
              go_wp2_with (fail)
              with_reducible refine (modem_c pb _ OM.out 1 (QM.out.trans (by simp)) _ P7.out).mono ?_
              rintro q_ w' ⟨rfl, rfl⟩
              obtain ⟨hc, hf⟩ := X7.out.out
              go_wp2
              clear hc hf
              have X9 := Lib.hid (X7.out.set 1 (.int .i64 ((x1 : Int) + 1)) (by simp))
              have P9 := Lib.hid (P7.out.far ⟨xb, 1, none⟩ (.int .i64 ((x1 : Int) + 1)) (Ne.symm NPX.out))
              go_roundg (gk - 1)
              · refine ⟨t + 1, by omega, by have := TG.out; omega, by rw [SB.out]; simp, by simp, B7.out.setCell LX.out _, by rw [it_succ]; exact P9.out, ?_⟩
                have e := X9.out
                rw [S0.out, S1.out, S2.out, S3.out]
                simpa using e
              case measure => have := TG.out; omega
            · have w1 : IntKind.i64.wrap ((b0 : Int) + 1) = (b0 : Int) + 1 := by rw [IntKind.wrap_i64]; omega
              have w20 : IntKind.i64.wrap ((x0 : Int) + 1) = (x0 : Int) + 1 := by rw [IntKind.wrap_i64]; omega
              have w21 : IntKind.i64.wrap ((x1 : Int) + 1) = (x1 : Int) + 1 := by rw [IntKind.wrap_i64]; omega
              have w22 : IntKind.i64.wrap ((x2 : Int) + 1) = (x2 : Int) + 1 := by rw [IntKind.wrap_i64]; omega
              have w23 : IntKind.i64.wrap ((x3 : Int) + 1) = (x3 : Int) + 1 := by rw [IntKind.wrap_i64]; omega
              have qb : (bits .and .u8 r 1 != 0) = true := by rw [qb]; rfl
              go_wp2_with (fail)
              with_reducible refine (TC.out _ P6.out).mono ?_
              rintro q_ u7 ⟨rfl, hP, hk⟩
              have P7 := Lib.hid hP
              have B7 := Lib.hid (hk.below HN.out LP.out B6.out)
              have X7 := Lib.hid (hk.has (Ne.symm NPX.out) X6.out)
              clear hP hk B6 P6 X6
              go_wp2_with (fail)
              with_reducible refine (modem_c pb _ OM.out 2 (QM.out.trans (by simp)) _ P7.out).mono ?_
              rintro q_ w' ⟨rfl, rfl⟩
              obtain ⟨hc, hf⟩ := X7.out.out
              go_wp2
              clear hc hf
              have X9 := Lib.hid (X7.out.set 2 (.int .i64 ((x2 : Int) + 1)) (by simp))
              have P9 := Lib.hid (P7.out.far ⟨xb, 2, none⟩ (.int .i64 ((x2 : Int) + 1)) (Ne.symm NPX.out))
              go_roundg (gk - 1)
              · refine ⟨t + 1, by omega, by have := TG.out; omega, by rw [SB.out]; simp, by simp, B7.out.setCell LX.out _, by rw [it_succ]; exact P9.out, ?_⟩
                have e := X9.out
                rw [S0.out, S1.out, S2.out, S3.out]
                simpa using e
              case measure => have := TG.out; omega
            · have w1 : IntKind.i64.wrap ((b0 : Int) + 1) = (b0 : Int) + 1 := by rw [IntKind.wrap_i64]; omega
              have w20 : IntKind.i64.wrap ((x0 : Int) + 1) = (x0 : Int) + 1 := by rw [IntKind.wrap_i64]; omega
              have w21 : IntKind.i64.wrap ((x1 : Int) + 1) = (x1 : Int) + 1 := by rw [IntKind.wrap_i64]; omega
              have w22 : IntKind.i64.wrap ((x2 : Int) + 1) = (x2 : Int) + 1 := by rw [IntKind.wrap_i64]; omega
              have w23 : IntKind.i64.wrap ((x3 : Int) + 1) = (x3 : Int) + 1 := by rw [IntKind.wrap_i64]; omega
              have qb : (bits .and .u8 r 1 != 0) = true := by rw [qb]; rfl
              go_wp2_with (fail)
              with_reducible refine (TC.out _ P6.out).mono ?_
              rintro q_ u7 ⟨rfl, hP, hk⟩
              have P7 := Lib.hid hP
              have B7 := Lib.hid (hk.below HN.out LP.out B6.out)
              have X7 := Lib.hid (hk.has (Ne.symm NPX.out) X6.out)
              clear hP hk B6 P6 X6
              go_wp2_with (fail)
              with_reducible refine (modem_c pb _ OM.out 3 (QM.out.trans (by simp)) _ P7.out).mono ?_
              rintro q_ w' ⟨rfl, rfl⟩
              obtain ⟨hc, hf⟩ := X7.out.out
              go_wp2
              clear hc hf
              have X9 := Lib.hid (X7.out.set 3 (.int .i64 ((x3 : Int) + 1)) (by simp))
              have P9 := Lib.hid (P7.out.far ⟨xb, 3, none⟩ (.int .i64 ((x3 : Int) + 1)) (Ne.symm NPX.out))
              go_roundg (gk - 1)
              · refine ⟨t + 1, by omega, by have := TG.out; omega, by rw [SB.out]; simp, by simp, B7.out.setCell LX.out _, by rw [it_succ]; exact P9.out, ?_⟩
                have e := X9.out
                rw [S0.out, S1.out, S2.out, S3.out]
                simpa using e
              case measure => have := TG.out; omega
        · have et : t = 17556 := by omega
          subst et
          have i0 := (cnt_all (isN 0) p).trans all_0
          have i1 := (cnt_all (isN 1) p).trans all_1
          have i2 := (cnt_all (isN 2) p).trans all_2
          have i3 := (cnt_all (isN 3) p).trans all_3
          have ib := (cnt_all blN p).trans all_b
          rw [i0, i1, i2, i3] at X6
          rw [ib]
          clear i0 i1 i2 i3 ib ht hlt TG
          have px : pos (itM 17556 m1) = pos m1 := by rw [pos_it OK1_.out on0_.out]; have := pos_bd OK1_.out; omega
          have f1 : itM 17556 m1 8356 = L := by rw [(pos_line (it_ok OK1_.out _)).1, px, ← (pos_line OK1_.out).1]; exact hL_.out
          have f2 : itM 17556 m1 8363 = D := by rw [(pos_line (it_ok OK1_.out _)).2, px, ← (pos_line OK1_.out).2]; exact hD_.out
          have F1 := Lib.hid f1
          have F2 := Lib.hid f2
          clear px f1 f2
          have X8 := Lib.hid (show Has u6 xb #[.int .i64 7344, .int .i64 1140, .int .i64 2880, .int .i64 6192] from X6.out)
          clear X6
          obtain ⟨hc, hf⟩ := X8.out.out
          have hgd : Try.prog.eqGuardType Try.prog.depth 50 = false := by kernel_rfl
          have heq := eq_four 7344 1140 2880 6192
          go_wp2_with (fail)
          with_reducible refine (line_u pb _ L F1.out bL.1 bL.2 _ P6.out).mono ?_
          rintro q_ w' ⟨rfl, rfl⟩
          go_wp2_with (fail)
          with_reducible refine (dot_u pb _ D F2.out bD.1 bD.2 _ P6.out).mono ?_
          rintro q_ w' ⟨rfl, rfl⟩
          go_wp2
          all_goals exact bodyPost_ret (v := .bool true) (by simp [results, Try.results6, go_sem]) rfl ⟨rfl, B6.out⟩
theorem fr_or (c : Int) (h0 : 0 ≤ c) (h1 : c < 256) : 128 ≤ bits .or .u8 128 (bits .and .u8 c 125) ∧ bits .or .u8 128 (bits .and .u8 c 125) < 256 := byte_all (P := fun c => 128 ≤ bits .or .u8 128 (bits .and .u8 c 125) ∧ bits .or .u8 128 (bits .and .u8 c 125) < 256) (by decide +kernel) c h0 h1
/-- The walk. -/
theorem frames_walk (st c : Int) (st0 : 0 ≤ st) (st1 : st < 65536) (c0 : 0 ≤ c) (c1 : c < 256) (w : World) : Calls Try.prog 6 #[.int .u16 st, .int .u8 c] w fun q_ w' => q_ = .returned (.bool true) ∧ Below w.heap.size w w' := by
  have e0 : st.tmod 3000 = st % 3000 := Int.tmod_eq_emod_of_nonneg st0
  obtain ⟨N, hN⟩ := Int.eq_ofNat_of_zero_le (show 0 ≤ st % 3000 by omega)
  obtain ⟨g0, g1⟩ := fr_or c c0 c1
  have ok0 : Ok (writeM zeroM 65344 (bits .or .u8 128 (bits .and .u8 c 125))) := ok_write ok_zero _ _ ⟨by omega, g1⟩
  have on0 : 128 ≤ itM N (writeM zeroM 65344 (bits .or .u8 128 (bits .and .u8 c 125))) 8352 := by
    rw [it_ctl, write_ctl _ _ (by decide), sg_at _ _ (by omega), upd_same]
    exact g0
  have ok1 := it_ok ok0 N
  obtain ⟨p, hp⟩ := Int.eq_ofNat_of_zero_le (pos_bd ok1).1
  exact frames_w st c st0 st1 c0 c1 _ rfl g0 g1 N (e0.trans hN) (by omega) _ _ rfl rfl ok0 ok1 on0 p hp _ _ rfl rfl (ok1.byte 8356 (by decide) (by decide)) (ok1.byte 8363 (by decide) (by decide)) w
end Go.Proofs.Ytpfbodmadmneiaa
