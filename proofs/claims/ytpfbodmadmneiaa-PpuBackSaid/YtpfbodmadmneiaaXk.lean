/-
  Plain data: bytes of a unit that are decoded; no program, no condition.
-/
import Derived.Test.YtpfbodmadmneiaaTz
import Derived.Test.YtpfbodmadmneiaaEo
import Derived.Deep.Cut
import Derived.BigQuiet
import Derived.WalkSmall
import Derived.Deep.LoopGhost
import Derived.Laws.MakeOwn
import Derived.Deep.DeepCutAuto
import Derived.Deep.CutBlock
import Derived.Laws.StructEq
import Derived.Test.YtpfbodmadmneiaaFwK
import Derived.Test.YtpfbodmadmneiaaAw
import Derived.Laws.IdiomCopy
namespace Go.Proofs.Ytpfbodmadmneiaa
open Go.ChangeShapes Go.WideShapes Go.ChangeAt Go.RowKit
set_option linter.unusedVariables false
set_option linter.unusedSimpArgs false
set_option maxRecDepth 100000
def cntR (t : Nat) : Nat := if t ≤ 6 then t else t - 1
theorem one_at (x : Int) (f : M) (n : Nat) (h : x = f (n + 0)) : ∀ j, j < 1 → (#[.int .u8 x] : Array Value)[j]? = some (.int .u8 (f (n + j))) := fun j hj => by
 match j, hj with
 | 0, _ => exact congrArg (fun q => some (Value.int .u8 q)) h
theorem own_nil (w : World) (base : Nat) (f : M) : OwnB w base (.slice none 0 0) 0 f := ⟨by rw [bl_len], Or.inl ⟨rfl, rfl⟩⟩
theorem rp_cnt (n : Nat) (h : n < 12) (h4 : n ≠ 4) (h6 : n ≠ 6) : rp (2 + n) = 8352 + cntR n := by
 unfold rp cntR
 by_cases a : n < 4
 ·rw [if_pos (by omega), if_pos (by omega)]; omega
 ·rw [if_neg (by omega)]
  by_cases b : n = 5
  ·subst b; rfl
  ·rw [if_neg (by omega), if_pos (by omega), if_neg (by omega)]; omega
set_option maxHeartbeats 16000000 in
theorem renc_c (r v s : Nat) (m : M) (ok : Ok m) (w : World) (h : RU w r v s m) : Calls Try.prog 18 #[.pointer (some ⟨r, 0, none⟩)] w (EncE (encF m) w.heap.size w) := by
 suffices hall : ∀ (n_ : Nat) (W0 : World), n_ ≤ W0.heap.size → Below n_ W0 w → RU W0 r v s m → r < n_ → v < n_ → s < n_ → Calls Try.prog 18 #[.pointer (some ⟨r, 0, none⟩)] w (EncE (encF m) n_ W0) from hall _ _ (Nat.le_refl _) (Below.refl _ _) h h.R.1 h.V.1 h.S.1
 clear h
 intro n_ W0 hn hB hP q1 q2 q3
 have HN := Lib.hid hn
 have B0 := Lib.hid hB
 have PW := Lib.hid hP
 have Q1 := Lib.hid q1
 have Q2 := Lib.hid q2
 have Q3 := Lib.hid q3
 clear hn hB hP q1 q2 q3
 obtain ⟨u0, hu0⟩ : ∃ u0, u0 = w := ⟨_, rfl⟩
 rw [← hu0] at B0 ⊢
 clear hu0
 obtain ⟨f, hf⟩ : ∃ f, f = encF m := ⟨_, rfl⟩
 have FL := Lib.hid (show ∀ i, i < 8365 → f i = m i from fun i hi => by rw [hf]; exact encF_lo m i hi)
 have FH := Lib.hid (show ∀ i, 8366 ≤ i → f (i + 1) = m i from fun i hi => by rw [hf]; exact encF_hi m i hi)
 have FA := Lib.hid (show f 8365 = m 8365 % 256 by rw [hf]; rfl)
 have FB := Lib.hid (show f 8366 = m 8365 / 256 by rw [hf]; rfl)
 rw [← hf]
 clear hf
 obtain ⟨d, hd⟩ : ∃ x, m 8363 = x := ⟨_, rfl⟩
 have bd := ok.byte 8363 (by decide) (by decide)
 rw [hd] at bd
 have Hd := Lib.hid hd
 clear hd
 obtain ⟨ow, how⟩ : ∃ x, m 8364 = x := ⟨_, rfl⟩
 have bow := ok.byte 8364 (by decide) (by decide)
 rw [how] at bow
 have How := Lib.hid how
 clear how
 obtain ⟨fr, hfr⟩ : ∃ x, m 8365 = x := ⟨_, rfl⟩
 have bfr := ok.fr
 rw [hfr] at bfr
 have Hfr := Lib.hid hfr
 clear hfr
 obtain ⟨ac, hac⟩ : ∃ x, decide (m 8366 ≠ 0) = x := ⟨_, rfl⟩
 have Hac := Lib.hid hac
 have Tac := Lib.hid (show tf ac = m 8366 by rw [← hac]; rcases ok.act with q | q <;> rw [q] <;> rfl)
 clear hac
 obtain ⟨L, hL⟩ : ∃ x, m 8356 = x := ⟨_, rfl⟩
 have bL := ok.byte 8356 (by decide) (by decide)
 rw [hL] at bL
 have HL := Lib.hid hL
 clear hL
 have OK := Lib.hid ok
 clear ok
 go_enter Try.func18, Try.ntmps18
 have R0 := Lib.hid (own_nil u0 n_ f)
 obtain ⟨hc, hf⟩ := (PW.out.at Q1.out Q2.out Q3.out HN.out B0.out).R.out
 have e_V := encR_V v s m
 have e_S := encR_S v s m
 go_upto_region 2 with (fail)
 clear hc hf
 obtain ⟨hc, hf⟩ := (PW.out.at Q1.out Q2.out Q3.out HN.out B0.out).R.out
 obtain ⟨v1, u1, hr, ho, hb⟩ := app_bs v 0 8192 8192 R0.out (fun j hj => by
   rw [Nat.zero_add, (PW.out.at Q1.out Q2.out Q3.out HN.out B0.out).V.2.1, encV_get _ _ (by omega), FL.out _ (by omega)]
   try rw [Nat.zero_add]) (Nat.le_trans HN.out B0.out.size) (by omega)
 have RUN := Lib.hid hr
 clear hr
 go_wp2_with (fail)
 refine wp_append_run _ _ _ (.slice none 0 0) (.slice (some ⟨v, 0, none⟩) 8192 8192) _ rfl rfl rfl RUN.out ?_
 have R1 := Lib.hid (show OwnB u1 n_ v1 (8192) f from ho)
 have B1 := Lib.hid (B0.out.trans hb)
 clear ho hb RUN R0 B0
 try simp only [Act.put, qqA, qqB, qqC]
 clear hc hf
 obtain ⟨hc, hf⟩ := (PW.out.at Q1.out Q2.out Q3.out HN.out B1.out).R.out
 obtain ⟨g_1, c_1, eV⟩ := OwnB.slice2 R1.out (by omega)
 subst eV
 obtain ⟨v2, u2, hr, ho, hb⟩ := app_bs s 0 160 160 R1.out (fun j hj => by
   rw [Nat.zero_add, (PW.out.at Q1.out Q2.out Q3.out HN.out B1.out).S.2.1, encS_get _ _ (by omega), FL.out _ (by omega)]
   try rw [Nat.zero_add]) (Nat.le_trans HN.out B1.out.size) (by omega)
 have RUN := Lib.hid hr
 clear hr
 go_wp2_with (fail)
 refine wp_append_run _ _ _ (.slice (some ⟨g_1, 0, none⟩) 8192 c_1) (.slice (some ⟨s, 0, none⟩) 160 160) _ rfl rfl rfl RUN.out ?_
 have R2 := Lib.hid (show OwnB u2 n_ v2 (8352) f from ho)
 have B2 := Lib.hid (B1.out.trans hb)
 clear ho hb RUN R1 B1
 try simp only [Act.put, qqA, qqB, qqC]
 clear hc hf e_V e_S
 go_wp2
 go_loopg [3, 4] 12 (fun g' vv i wr => ∃ (t : Nat) (V : Value), t ≤ 12 ∧ g' + t = 12 ∧ vv = V ∧ i = .int .i64 t ∧ Below n_ W0 wr ∧ OwnB wr n_ V (8352 + cntR t) f)
 case atStart => exact ⟨0, _, by omega, by omega, rfl, rfl, B2.out, R2.out⟩
 case round =>
  obtain ⟨u20, hu⟩ : ∃ q_, q_ = wr := ⟨_, rfl⟩
  subst hu
  obtain ⟨t, VV_, ht, hg, rfl, rfl, hB, hR⟩ := hrel
  have TG := Lib.hid hg
  have B20 := Lib.hid hB
  have R20 := Lib.hid hR
  clear hg hB hR B2 R2
  have cb : cntR t ≤ 12 := by unfold cntR; split <;> omega
  by_cases hlt : t < 12
  ·have l1 : (t : Int) < 12 := by omega
   by_cases t4 : t = 4
   ·have q4 : ((t : Int) == 4) = true := by simp; omega
    have w8 : IntKind.u8.wrap L = L := by rw [IntKind.wrap_u8]; omega
    obtain ⟨hc, hf⟩ := (PW.out.at Q1.out Q2.out Q3.out HN.out B20.out).R.out
    have e_L := rc_i v s m 14 L (by decide) (by decide) HL.out
    obtain ⟨x, hx⟩ : ∃ y, y = L := ⟨_, rfl⟩
    have HXX := Lib.hid (show x = f (8352 + cntR t + 0) by rw [hx, t4, ← HL.out]; exact (FL.out 8356 (by decide)).symm)
    subst hx
    have T4 := Lib.hid t4
    clear t4
    obtain ⟨g_20, c_20, eV⟩ := OwnB.slice2 R20.out (by omega)
    subst eV
    obtain ⟨v21, u21, hr, ho, hb⟩ := app_new (w := u20) #[.int .u8 x] 1 R20.out (one_at x f (8352 + cntR t) HXX.out) (Nat.le_trans HN.out B20.out.size) (by omega)
    have RUN := Lib.hid hr
    clear hr
    go_wp2_with (at_builtin; refine wpList_append_run rfl _ _ _ (.slice (some ⟨g_20, 0, none⟩) (8352 + cntR t) c_20) (.slice (some ⟨u20.heap.size, 0, none⟩) 1 1) _ rfl rfl rfl RUN.out ?_)
    have R21 := Lib.hid (show OwnB u21 n_ v21 (8352 + cntR t + 1) f from ho)
    have B21 := Lib.hid (B20.out.trans hb)
    clear ho hb RUN R20 B20
    try simp only [Act.put, qqA, qqB, qqC]
    clear hc hf e_L
    go_wp2
    have t4 := T4.out
    go_roundg (gk - 1)
    ·exact ⟨t + 1, _, by omega, by have := TG.out; omega, rfl, by simp, B21.out, by have := R21.out; rwa [show 8352 + cntR t + 1 = 8352 + cntR (t + 1) by unfold cntR; split <;> split <;> omega] at this⟩
    case measure => have := TG.out; omega
   ·have q4 : ((t : Int) == 4) = false := by simp; omega
    by_cases t6 : t = 6
    ·have q6 : ((t : Int) != 6) = false := by simp; omega
     have T6 := Lib.hid t6
     clear t6
     go_wp2
     have t6 := T6.out
     go_roundg (gk - 1)
     ·exact ⟨t + 1, _, by omega, by have := TG.out; omega, rfl, by simp, B20.out, by have := R20.out; rwa [show 8352 + cntR t = 8352 + cntR (t + 1) by unfold cntR; split <;> split <;> omega] at this⟩
     case measure => have := TG.out; omega
    ·have q6 : ((t : Int) != 6) = true := by simp; omega
     have er : rp (2 + t) = 8352 + cntR t := by rw [rp_cnt t (by omega) t4 t6]
     obtain ⟨hc, hf⟩ := (PW.out.at Q1.out Q2.out Q3.out HN.out B20.out).R.out
     obtain ⟨x, hx⟩ : ∃ y, y = m (rp (2 + t)) := ⟨_, rfl⟩
     have e_x := rc_u v s m (2 + t) x (by omega) (by omega) (by omega) (by omega) hx.symm
     have HXX := Lib.hid (show x = f (8352 + cntR t + 0) by rw [hx, er, Nat.add_zero]; exact (FL.out _ (by unfold cntR; split <;> omega)).symm)
     clear hx
     obtain ⟨g_20, c_20, eV⟩ := OwnB.slice2 R20.out (by omega)
     subst eV
     obtain ⟨v21, u21, hr, ho, hb⟩ := app_new (w := u20) #[.int .u8 x] 1 R20.out (one_at x f (8352 + cntR t) HXX.out) (Nat.le_trans HN.out B20.out.size) (by omega)
     have RUN := Lib.hid hr
     clear hr
     go_wp2_with (at_builtin; refine wpList_append_run rfl _ _ _ (.slice (some ⟨g_20, 0, none⟩) (8352 + cntR t) c_20) (.slice (some ⟨u20.heap.size, 0, none⟩) 1 1) _ rfl rfl rfl RUN.out ?_)
     have R21 := Lib.hid (show OwnB u21 n_ v21 (8352 + cntR t + 1) f from ho)
     have B21 := Lib.hid (B20.out.trans hb)
     clear ho hb RUN R20 B20
     try simp only [Act.put, qqA, qqB, qqC]
     clear hc hf e_x
     go_wp2
     go_roundg (gk - 1)
     ·exact ⟨t + 1, _, by omega, by have := TG.out; omega, rfl, by simp, B21.out, by have := R21.out; rwa [show 8352 + cntR t + 1 = 8352 + cntR (t + 1) by unfold cntR; split <;> split <;> omega] at this⟩
     case measure => have := TG.out; omega
  ·obtain rfl : 12 = t := by omega
   have R22 := Lib.hid (show OwnB u20 n_ _ 8363 f from R20.out)
   have B22 := B20
   clear R20 B20 cb ht hlt TG
   obtain ⟨u22, hu⟩ : ∃ q_, q_ = u20 := ⟨_, rfl⟩
   rw [← hu] at R22 B22 ⊢
   clear hu
   have A5 := Lib.hid (show ∀ j, j < 5 → (#[.int .u8 d, .int .u8 ow, .int .u8 (fr % 256), .int .u8 (fr / 256), .int .u8 (tf ac)] : Array Value)[j]? = some (.int .u8 (f (8363 + j))) from fun j hj => by
    match j, hj with
    | 0, _ => exact congrArg (fun x => some (Value.int .u8 x)) ((FL.out 8363 (by decide)).trans Hd.out).symm
    | 1, _ => exact congrArg (fun x => some (Value.int .u8 x)) ((FL.out 8364 (by decide)).trans How.out).symm
    | 2, _ => exact congrArg (fun x => some (Value.int .u8 x)) (FA.out.trans (by rw [Hfr.out])).symm
    | 3, _ => exact congrArg (fun x => some (Value.int .u8 x)) (FB.out.trans (by rw [Hfr.out])).symm
    | 4, _ => exact congrArg (fun x => some (Value.int .u8 x)) (Tac.out.trans (FH.out 8366 (by decide)).symm))
   have w1 : fr.tmod 256 = fr % 256 := Int.tmod_eq_emod_of_nonneg bfr.1
   have w2 : IntKind.u8.wrap (fr % 256) = fr % 256 := by rw [IntKind.wrap_u8]; omega
   have w3 : fr.tdiv 256 = fr / 256 := Int.tdiv_eq_ediv_of_nonneg bfr.1
   have w4 : IntKind.u8.wrap (fr / 256) = fr / 256 := by rw [IntKind.wrap_u8]; omega
   have w5 : IntKind.u8.wrap d = d := by rw [IntKind.wrap_u8]; omega
   have w6 : IntKind.u8.wrap ow = ow := by rw [IntKind.wrap_u8]; omega
   have w7 : IntKind.i64.wrap (fr % 256) = fr % 256 := by rw [IntKind.wrap_i64]; omega
   have w8 : IntKind.i64.wrap (fr / 256) = fr / 256 := by rw [IntKind.wrap_i64]; omega
   obtain ⟨hc, hf⟩ := (PW.out.at Q1.out Q2.out Q3.out HN.out B22.out).R.out
   have e_ac := rc_b v s m ac Hac.out
   cases ac
   ·skip
    replace A5 := Lib.hid (show ∀ j, j < 5 → (#[.int .u8 d, .int .u8 ow, .int .u8 (fr % 256), .int .u8 (fr / 256), .int .u8 0] : Array Value)[j]? = some (.int .u8 (f (8363 + j))) from A5.out)
    go_upto_region 14 with (fail)
    clear hc hf e_ac
    have B23 := Lib.hid B22.out.drew
    have R23 := Lib.hid (OwnB.below R22.out (Below.refl _ _).drew)
    clear B22 R22
    obtain ⟨g_, c_, eV⟩ := OwnB.slice2 R23.out (by omega)
    subst eV
    have e_d := rc_i v s (m) 15 d (by decide) (by decide) (Hd.out)
    have e_ow := rc_i v s (m) 16 ow (by decide) (by decide) (How.out)
    have e_fr := rc_i v s (m) 17 fr (by decide) (by decide) (Hfr.out)
    refine wp_region_held_drew (S := (fun w' => ∀ o, w'.cell? ⟨r, o, none⟩ = (encR v s m)[o]?)) (by kernel_rfl) (PW.out.at Q1.out Q2.out Q3.out HN.out B23.out).R.2.1 (fun hHeld => ?_)
    generalize World.drew _ = u23 at hHeld B23 R23 ⊢
    refine tzz 0 ?_
    refine tzz 1 ?_
    refine tzz 2 ?_
    refine tzz 3 ?_
    refine tzz 4 ?_
    refine tzz 5 ?_
    refine tzz 6 ?_
    refine tzz 7 ?_
    refine tzz 8 ?_
    refine tzz 9 ?_
    refine tzz 10 ?_
    refine tzz 11 ?_
    refine tzz 12 ?_
    refine tzz 13 ?_
    refine tzz 14 ?_
    refine tzz 15 ?_
    refine tzz 16 ?_
    refine tzz 17 ?_
    refine tzz 18 ?_
    refine tzz 19 ?_
    refine tzz 20 ?_
    refine tzz 21 ?_
    refine tzz 22 ?_
    refine tzz 23 ?_
    refine wpAnyH_ready (rs := [24]) (by kernel_rfl) (by simp) ?_
    refine (acc rfl (fun K hK => ?_) AllReadyH.nil)
    ·skip
     obtain ⟨v9, u9, hr, ho, hb⟩ := app_new #[.int .u8 d, .int .u8 ow, .int .u8 (fr % 256), .int .u8 (fr / 256), .int .u8 0] 5 R23.out A5.out (Nat.le_trans HN.out B23.out.size) (by omega)
     have RUN := Lib.hid hr
     clear hr
     go_simp
     have B24 := Lib.hid (vian HN.out B23.out (own1 _ (.cells #[.int .u8 d, .int .u8 ow, .int .u8 (fr % 256), .int .u8 (fr / 256), .int .u8 0] 5)))
     have B9 := Lib.hid (B23.out.trans hb)
     have R9 := Lib.hid (show OwnB u9 n_ v9 8368 f from ho)
     clear ho hb B23 R23
     refine hK.out _ _ ?s53 (fun hNew => ?r53)
     case s53 => exact (PW.out.at Q1.out Q2.out Q3.out HN.out B24.out).R.2.1
     clear hK K hHeld
     have hHeld := hNew
     clear hNew
     refine wpAnyH_ready (rs := [25]) (by kernel_rfl) (by simp) ?_
     refine (acc rfl (fun K hK => ?_) AllReadyH.nil)
     ·skip
      refine wp_append_run _ _ _ (.slice (some ⟨g_, 0, none⟩) 8363 c_) (.slice (some ⟨u23.heap.size, 0, none⟩) 5 5) _ rfl rfl rfl RUN.out ?_
      try simp only [Act.put, qqA, qqB, qqC]
      refine hK.out _ _ ?s54 (fun hNew => ?r54)
      case s54 => exact (PW.out.at Q1.out Q2.out Q3.out HN.out B9.out).R.2.1
      clear hK K hHeld
      have hHeld := hNew
      clear hNew
      refine tzz 26 ?_
      refine wpAnyH_done (by kernel_rfl) ?_ _
      clear hHeld RUN e_d e_ow e_fr w1 w2 w3 w4 w5 w6 w7 w8 A5
      go_wp2
      go_loopg [3, 74] 144 (fun g' vv i wr => ∃ (t : Nat) (V : Value), t ≤ 144 ∧ g' + t = 144 ∧ vv = V ∧ i = .int .i64 t ∧ Below n_ W0 wr ∧ OwnB wr n_ V (8368 + 160 * t) f)
      case atStart => exact ⟨0, _, by omega, by omega, rfl, rfl, B9.out, R9.out⟩
      case round =>
       obtain ⟨u20, hu⟩ : ∃ q_, q_ = wr := ⟨_, rfl⟩
       subst hu
       obtain ⟨t, VV_, ht, hg, rfl, rfl, hB, hR⟩ := hrel
       have TG := Lib.hid hg
       have B20 := Lib.hid hB
       have R20 := Lib.hid hR
       clear hg hB hR B9 R9
       by_cases hlt : t < 144
       ·have l1 : (t : Int) < 144 := by omega
        obtain ⟨g_20, c_20, eV⟩ := OwnB.slice2 R20.out (by omega)
        subst eV
        obtain ⟨v21, u21, hr, ho, hb⟩ := app_bs r (19 + t * 160) 160 160 R20.out (fun j hj => by
          rw [(PW.out.at Q1.out Q2.out Q3.out HN.out B20.out).R.2.1, encR_get _ _ _ _ (by omega) (by omega) (by omega) (by omega), rcell_row _ _ (by omega), show 8368 + 160 * t + j = (8367 + t * 160 + j) + 1 by omega, FH.out _ (by omega), show rp (19 + t * 160 + j) = 8367 + t * 160 + j by unfold rp; rw [if_neg (by omega), if_neg (by omega), if_neg (by omega), if_neg (by omega)]; omega]) (Nat.le_trans HN.out B20.out.size) (by omega)
        have RUN := Lib.hid hr
        clear hr
        go_wp2_with (fail)
        refine wp_append_run _ _ _ (.slice (some ⟨g_20, 0, none⟩) (8368 + 160 * t) c_20) (.slice (some ⟨r, 19 + t * 160, none⟩) 160 160) _ rfl rfl rfl RUN.out ?_
        have R21 := Lib.hid (show OwnB u21 n_ v21 (8368 + 160 * t + 160) f from ho)
        have B21 := Lib.hid (B20.out.trans hb)
        clear ho hb RUN R20 B20
        try simp only [Act.put, qqA, qqB, qqC]
        go_wp2
        go_roundg (gk - 1)
        ·exact ⟨t + 1, _, by omega, by have := TG.out; omega, rfl, by simp, B21.out, by have := R21.out; rwa [show 8368 + 160 * t + 160 = 8368 + 160 * (t + 1) by omega] at this⟩
        case measure => have := TG.out; omega
       ·obtain rfl : 144 = t := by omega
        go_wp2
        go_ret
        exact encE_mk R20.out B20.out
   ·skip
    replace A5 := Lib.hid (show ∀ j, j < 5 → (#[.int .u8 d, .int .u8 ow, .int .u8 (fr % 256), .int .u8 (fr / 256), .int .u8 1] : Array Value)[j]? = some (.int .u8 (f (8363 + j))) from A5.out)
    go_upto_region 14 with (fail)
    clear hc hf e_ac
    have B23 := Lib.hid B22.out.drew
    have R23 := Lib.hid (OwnB.below R22.out (Below.refl _ _).drew)
    clear B22 R22
    obtain ⟨g_, c_, eV⟩ := OwnB.slice2 R23.out (by omega)
    subst eV
    have e_d := rc_i v s (m) 15 d (by decide) (by decide) (Hd.out)
    have e_ow := rc_i v s (m) 16 ow (by decide) (by decide) (How.out)
    have e_fr := rc_i v s (m) 17 fr (by decide) (by decide) (Hfr.out)
    refine wp_region_held_drew (S := (fun w' => ∀ o, w'.cell? ⟨r, o, none⟩ = (encR v s m)[o]?)) (by kernel_rfl) (PW.out.at Q1.out Q2.out Q3.out HN.out B23.out).R.2.1 (fun hHeld => ?_)
    generalize World.drew _ = u23 at hHeld B23 R23 ⊢
    refine tzz 0 ?_
    refine tzz 1 ?_
    refine tzz 2 ?_
    refine tzz 3 ?_
    refine tzz 4 ?_
    refine tzz 5 ?_
    refine tzz 6 ?_
    refine tzz 7 ?_
    refine tzz 8 ?_
    refine tzz 9 ?_
    refine tzz 10 ?_
    refine tzz 11 ?_
    refine tzz 12 ?_
    refine tzz 13 ?_
    refine tzz 14 ?_
    refine tzz 15 ?_
    refine tzz 16 ?_
    refine tzz 17 ?_
    refine tzz 18 ?_
    refine tzz 19 ?_
    refine tzz 20 ?_
    refine tzz 21 ?_
    refine tzz 22 ?_
    refine tzz 23 ?_
    refine wpAnyH_ready (rs := [24]) (by kernel_rfl) (by simp) ?_
    refine (acc rfl (fun K hK => ?_) AllReadyH.nil)
    ·skip
     obtain ⟨v9, u9, hr, ho, hb⟩ := app_new #[.int .u8 d, .int .u8 ow, .int .u8 (fr % 256), .int .u8 (fr / 256), .int .u8 1] 5 R23.out A5.out (Nat.le_trans HN.out B23.out.size) (by omega)
     have RUN := Lib.hid hr
     clear hr
     go_simp
     have B24 := Lib.hid (vian HN.out B23.out (own1 _ (.cells #[.int .u8 d, .int .u8 ow, .int .u8 (fr % 256), .int .u8 (fr / 256), .int .u8 1] 5)))
     have B9 := Lib.hid (B23.out.trans hb)
     have R9 := Lib.hid (show OwnB u9 n_ v9 8368 f from ho)
     clear ho hb B23 R23
     refine hK.out _ _ ?s80 (fun hNew => ?r80)
     case s80 => exact (PW.out.at Q1.out Q2.out Q3.out HN.out B24.out).R.2.1
     clear hK K hHeld
     have hHeld := hNew
     clear hNew
     refine wpAnyH_ready (rs := [25]) (by kernel_rfl) (by simp) ?_
     refine (acc rfl (fun K hK => ?_) AllReadyH.nil)
     ·skip
      refine wp_append_run _ _ _ (.slice (some ⟨g_, 0, none⟩) 8363 c_) (.slice (some ⟨u23.heap.size, 0, none⟩) 5 5) _ rfl rfl rfl RUN.out ?_
      try simp only [Act.put, qqA, qqB, qqC]
      refine hK.out _ _ ?s81 (fun hNew => ?r81)
      case s81 => exact (PW.out.at Q1.out Q2.out Q3.out HN.out B9.out).R.2.1
      clear hK K hHeld
      have hHeld := hNew
      clear hNew
      refine tzz 26 ?_
      refine wpAnyH_done (by kernel_rfl) ?_ _
      clear hHeld RUN e_d e_ow e_fr w1 w2 w3 w4 w5 w6 w7 w8 A5
      go_wp2
      go_loopg [3, 74] 144 (fun g' vv i wr => ∃ (t : Nat) (V : Value), t ≤ 144 ∧ g' + t = 144 ∧ vv = V ∧ i = .int .i64 t ∧ Below n_ W0 wr ∧ OwnB wr n_ V (8368 + 160 * t) f)
      case atStart => exact ⟨0, _, by omega, by omega, rfl, rfl, B9.out, R9.out⟩
      case round =>
       obtain ⟨u20, hu⟩ : ∃ q_, q_ = wr := ⟨_, rfl⟩
       subst hu
       obtain ⟨t, VV_, ht, hg, rfl, rfl, hB, hR⟩ := hrel
       have TG := Lib.hid hg
       have B20 := Lib.hid hB
       have R20 := Lib.hid hR
       clear hg hB hR B9 R9
       by_cases hlt : t < 144
       ·have l1 : (t : Int) < 144 := by omega
        obtain ⟨g_20, c_20, eV⟩ := OwnB.slice2 R20.out (by omega)
        subst eV
        obtain ⟨v21, u21, hr, ho, hb⟩ := app_bs r (19 + t * 160) 160 160 R20.out (fun j hj => by
          rw [(PW.out.at Q1.out Q2.out Q3.out HN.out B20.out).R.2.1, encR_get _ _ _ _ (by omega) (by omega) (by omega) (by omega), rcell_row _ _ (by omega), show 8368 + 160 * t + j = (8367 + t * 160 + j) + 1 by omega, FH.out _ (by omega), show rp (19 + t * 160 + j) = 8367 + t * 160 + j by unfold rp; rw [if_neg (by omega), if_neg (by omega), if_neg (by omega), if_neg (by omega)]; omega]) (Nat.le_trans HN.out B20.out.size) (by omega)
        have RUN := Lib.hid hr
        clear hr
        go_wp2_with (fail)
        refine wp_append_run _ _ _ (.slice (some ⟨g_20, 0, none⟩) (8368 + 160 * t) c_20) (.slice (some ⟨r, 19 + t * 160, none⟩) 160 160) _ rfl rfl rfl RUN.out ?_
        have R21 := Lib.hid (show OwnB u21 n_ v21 (8368 + 160 * t + 160) f from ho)
        have B21 := Lib.hid (B20.out.trans hb)
        clear ho hb RUN R20 B20
        try simp only [Act.put, qqA, qqB, qqC]
        go_wp2
        go_roundg (gk - 1)
        ·exact ⟨t + 1, _, by omega, by have := TG.out; omega, rfl, by simp, B21.out, by have := R21.out; rwa [show 8368 + 160 * t + 160 = 8368 + 160 * (t + 1) by omega] at this⟩
        case measure => have := TG.out; omega
       ·obtain rfl : 144 = t := by omega
        go_wp2
        go_ret
        exact encE_mk R20.out B20.out
end Go.Proofs.Ytpfbodmadmneiaa
namespace Go.Proofs.Ytpfbodmadmneiaa
open Go.ChangeShapes Go.WideShapes Go.ChangeAt Go.RowKit
set_option linter.unusedVariables false
set_option linter.unusedSimpArgs false
set_option maxRecDepth 100000
set_option maxHeartbeats 1000000 in
theorem same_c (n : Nat) (hm : n ≤ 1000000) (v1 v2 : Value) (g1 g2 : Nat) (f1 f2 : M) (he : ∀ j, j < n → f1 j = f2 j) (w : World) (h1 : RowB w v1 n f1 g1) (h2 : RowB w v2 n f2 g2) : Calls Try.prog 16 #[v1, v2] w fun q_ w' => q_ = .returned (.bool true) ∧ Below w.heap.size w w' := by
  obtain ⟨c1, rfl, _, lg1, hc1, _⟩ := h1
  obtain ⟨c2, rfl, _, lg2, hc2, _⟩ := h2
  have H1 := Lib.hid hc1
  have H2 := Lib.hid hc2
  have HE := Lib.hid he
  clear hc1 hc2 he
  go_enter Try.func16, Try.ntmps16
  go_wp2
  go_loopg [13] n (fun g' i wr => ∃ (t : Nat), t ≤ n ∧ g' + t = n ∧ i = .int .i64 t ∧ Below w.heap.size w wr)
  case atStart => exact ⟨0, by omega, by omega, rfl, Below.refl _ _⟩
  case round =>
    obtain ⟨u3, hu⟩ : ∃ q_, q_ = wr := ⟨_, rfl⟩
    subst hu
    obtain ⟨t, ht, hg, rfl, hb⟩ := hrel
    have TG := Lib.hid hg
    have HB := Lib.hid hb
    clear hg hb
    by_cases hlt : t < n
    · have l1 : (t : Int) < n := by omega
      have e1 := (HB.out.cell (p := ⟨g1, t, none⟩) lg1).trans (H1.out t hlt)
      have e2 := (HB.out.cell (p := ⟨g2, t, none⟩) lg2).trans (H2.out t hlt)
      rw [HE.out t hlt] at e1
      generalize f2 t = x at e1 e2
      go_wp2
      go_quiet (fail)
      go_wp2
      go_roundg (gk - 1)
      · exact ⟨t + 1, by omega, by have := TG.out; omega, by simp, below_drewN HB.out _⟩
      case measure => have := TG.out; omega
    · go_wp2
      go_ret
      exact ⟨rfl, HB.out⟩
end Go.Proofs.Ytpfbodmadmneiaa
namespace Go.Proofs.Ytpfbodmadmneiaa
open Go.ChangeShapes Go.WideShapes Go.ChangeAt Go.RowKit
set_option linter.unusedVariables false
set_option linter.unusedSimpArgs false
set_option maxRecDepth 100000
/-- A row of the picture. -/
def rwV (m : M) (line : Int) : M := if 0 ≤ line ∧ line < 144 then fun j => m (8367 + line.toNat * 160 + j) else zeroM
theorem row_in_u {m : M} (k : Nat) (h : 8367 ≤ k) (h2 : k + 160 ≤ 31407) (w : World) (b : Nat) (hP : Has w b (encU m)) : w.rangeAt b k (enc (fun j => m (k + j))).toList := fun j v hv => by
 have hj : j < 160 := by
  obtain ⟨q, _⟩ := List.getElem?_eq_some_iff.1 hv
  rwa [Array.length_toList, enc_size] at q
 rw [Array.getElem?_toList, enc_get _ _ hj] at hv
 rw [hP.2.1, encU_u _ _ (by omega) (by omega) (by omega)]; exact hv
/-- A row of the picture is loaded. -/
theorem load_row {ops : Array Oper} {rest : List Oper} {op : Oper} {a : Act} {w : World} {Q : Exit → Act → World → Prop} {b : Nat} {m : M} (hP : Has w b (encU m))
  (hgd : op.guard = none) (x : Operand) (ho : op.op = .load 34 x) (k : Nat) (hx : a.eval x = .pointer (some ⟨b, k, none⟩)) (h : 8367 ≤ k) (h2 : k + 160 ≤ 31407)
  (hK : wpList Try.prog ops Q rest (a.put op.dst (.agg (enc (fun j => m (k + j))))) w) : wpList Try.prog ops Q (op :: rest) a w := by
 obtain ⟨d, hd, hr⟩ := r34.d
 exact wpList_load_mid hgd 34 x ho b k hx (enc (fun j => m (k + j))).toList d (row_in_u k h h2 w b hP) hd hr (by rw [r34.i]; simp [enc_size]) (by simpa using hK)
theorem zc34 : Try.zeroCells34 = enc zeroM := by
 have h1 := zero34
 have h2 := Try.zeroValue34
 have w : World := default
 have e := (h1 w).symm.trans (h2 w)
 injection e with e1 _
 injection e1 with e1
 exact e1.symm
set_option maxHeartbeats 4000000 in
theorem row_0 (b : Nat) (m : M) (n : Nat) (n1 : n < 144) (w : World) (h : Has w b (encU m)) : Calls Try.prog 15 #[.pointer (some ⟨b, 0, none⟩), .int .i64 (n : Int)] w fun q_ w' => q_ = .returned (.agg (enc (fun j => m (8367 + n * 160 + j)))) ∧ Below w.heap.size w w' := by
 suffices hall : ∀ (n_ : Nat) (W0 : World), n_ ≤ W0.heap.size → Below n_ W0 w → Calls Try.prog 15 #[.pointer (some ⟨b, 0, none⟩), .int .i64 (n : Int)] w fun q_ w' => q_ = .returned (.agg (enc (fun j => m (8367 + n * 160 + j)))) ∧ Below n_ W0 w' from hall _ _ (Nat.le_refl _) (Below.refl _ _)
 intro n_ W0 hn hB
 have HN := Lib.hid hn
 have P0 := Lib.hid h
 clear hn h
 have Q_ := own1 w (.cells Try.zeroCells34 34)
 have B1 := Lib.hid (vian HN.out hB Q_)
 have P1 := Lib.hid (P0.out.below Q_)
 have X1 := Lib.hid (Has.new w Try.zeroCells34 34)
 have LX := Lib.hid (Nat.le_trans HN.out hB.size)
 have NX := Lib.hid (Nat.ne_of_lt P0.out.1)
 clear Q_ hB
 have n2 : (n : Int) < 144 := by omega
 go_enter Try.func15, Try.ntmps15
 go_upto_region 1 with (fail)
 generalize w.alloc (.cells Try.zeroCells34 34) = u1 at B1 P1 X1 ⊢
 generalize w.heap.size = xb at X1 LX NX ⊢
 clear P0
 go_upto_region 3 with (fail)
 go_wp2_with (first | refine load_row P1.out rfl _ rfl _ rfl (by omega) (by omega) ?_ | refine store_g r34 X1.out Try.zeroCells34_size (enc (fun j => m (8367 + n * 160 + j))) (enc_size _) (enc_one _) rfl _ _ rfl rfl rfl ?_)
 try go_wp2_with (refine store_g r34 X1.out Try.zeroCells34_size (enc (fun j => m (8367 + n * 160 + j))) (enc_size _) (enc_one _) rfl _ _ rfl rfl rfl ?_)
 intro u2 hP hk
 have B2 := Lib.hid (hk.below HN.out LX.out B1.out)
 have X2 := Lib.hid hP
 clear hP hk
 try simp only [Act.put]
 go_wp2
 exact bodyPost_ret (v := .agg (enc (fun j => m (8367 + n * 160 + j)))) (results_g r34 Try.results15 _ rfl X2.out (enc_size _)) rfl ⟨rfl, B2.out⟩
set_option maxHeartbeats 4000000 in
theorem row_lo (b : Nat) (m : M)  (w : World) (h : Has w b (encU m)) : Calls Try.prog 15 #[.pointer (some ⟨b, 0, none⟩), .int .i64 (-1)] w fun q_ w' => q_ = .returned (.agg (enc (zeroM))) ∧ Below w.heap.size w w' := by
 suffices hall : ∀ (n_ : Nat) (W0 : World), n_ ≤ W0.heap.size → Below n_ W0 w → Calls Try.prog 15 #[.pointer (some ⟨b, 0, none⟩), .int .i64 (-1)] w fun q_ w' => q_ = .returned (.agg (enc (zeroM))) ∧ Below n_ W0 w' from hall _ _ (Nat.le_refl _) (Below.refl _ _)
 intro n_ W0 hn hB
 have HN := Lib.hid hn
 have P0 := Lib.hid h
 clear hn h
 have Q_ := own1 w (.cells Try.zeroCells34 34)
 have B1 := Lib.hid (vian HN.out hB Q_)
 have P1 := Lib.hid (P0.out.below Q_)
 have X1 := Lib.hid (Has.new w Try.zeroCells34 34)
 have LX := Lib.hid (Nat.le_trans HN.out hB.size)
 have NX := Lib.hid (Nat.ne_of_lt P0.out.1)
 clear Q_ hB
 go_enter Try.func15, Try.ntmps15
 go_upto_region 1 with (fail)
 generalize w.alloc (.cells Try.zeroCells34 34) = u1 at B1 P1 X1 ⊢
 generalize w.heap.size = xb at X1 LX NX ⊢
 clear P0
 go_upto_region 2 with (fail)
 rw [zc34] at X1
 go_wp2_with (refine store_g r34 X1.out (enc_size _) (enc zeroM) (enc_size _) (enc_one _) rfl _ _ rfl rfl (by rw [← zc34]; rfl) ?_)
 intro u2 hP hk
 have B2 := Lib.hid (hk.below HN.out LX.out B1.out)
 have X2 := Lib.hid hP
 clear hP hk
 try simp only [Act.put]
 go_wp2
 exact bodyPost_ret (v := .agg (enc (zeroM))) (results_g r34 Try.results15 _ rfl X2.out (enc_size _)) rfl ⟨rfl, B2.out⟩
set_option maxHeartbeats 4000000 in
theorem row_hi (b : Nat) (m : M) (line : Int) (l0 : 144 ≤ line) (l1 : line < 256) (w : World) (h : Has w b (encU m)) : Calls Try.prog 15 #[.pointer (some ⟨b, 0, none⟩), .int .i64 line] w fun q_ w' => q_ = .returned (.agg (enc (zeroM))) ∧ Below w.heap.size w w' := by
 suffices hall : ∀ (n_ : Nat) (W0 : World), n_ ≤ W0.heap.size → Below n_ W0 w → Calls Try.prog 15 #[.pointer (some ⟨b, 0, none⟩), .int .i64 line] w fun q_ w' => q_ = .returned (.agg (enc (zeroM))) ∧ Below n_ W0 w' from hall _ _ (Nat.le_refl _) (Below.refl _ _)
 intro n_ W0 hn hB
 have HN := Lib.hid hn
 have P0 := Lib.hid h
 clear hn h
 have Q_ := own1 w (.cells Try.zeroCells34 34)
 have B1 := Lib.hid (vian HN.out hB Q_)
 have P1 := Lib.hid (P0.out.below Q_)
 have X1 := Lib.hid (Has.new w Try.zeroCells34 34)
 have LX := Lib.hid (Nat.le_trans HN.out hB.size)
 have NX := Lib.hid (Nat.ne_of_lt P0.out.1)
 clear Q_ hB
 have g0 : ¬ line < 0 := by omega
 go_enter Try.func15, Try.ntmps15
 go_upto_region 1 with (fail)
 generalize w.alloc (.cells Try.zeroCells34 34) = u1 at B1 P1 X1 ⊢
 generalize w.heap.size = xb at X1 LX NX ⊢
 clear P0
 go_upto_region 2 with (fail)
 rw [zc34] at X1
 go_wp2_with (refine store_g r34 X1.out (enc_size _) (enc zeroM) (enc_size _) (enc_one _) rfl _ _ rfl rfl (by rw [← zc34]; rfl) ?_)
 intro u2 hP hk
 have B2 := Lib.hid (hk.below HN.out LX.out B1.out)
 have X2 := Lib.hid hP
 clear hP hk
 try simp only [Act.put]
 go_wp2
 exact bodyPost_ret (v := .agg (enc (zeroM))) (results_g r34 Try.results15 _ rfl X2.out (enc_size _)) rfl ⟨rfl, B2.out⟩
theorem row_c (b : Nat) (m : M) (line : Int) (l0 : 0 ≤ line) (l1 : line < 256) (f : M) (hf : rwV m line = f) (w : World) (h : Has w b (encU m)) : Calls Try.prog 15 #[.pointer (some ⟨b, 0, none⟩), .int .i64 line] w fun q_ w' => q_ = .returned (.agg (enc f)) ∧ Below w.heap.size w w' := by
 subst hf
 unfold rwV
 by_cases g : 0 ≤ line ∧ line < 144
 ·rw [if_pos g]
  obtain ⟨n, rfl⟩ := Int.eq_ofNat_of_zero_le l0
  rw [Int.toNat_natCast]
  exact row_0 b m n (by omega) w h
 ·rw [if_neg g]; exact row_hi b m line (by omega) l1 w h
/-- A call is loaded out of a slice of calls. -/
theorem load_op {ops : Array Oper} {rest : List Oper} {op : Oper} {a : Act} {w : World} {Q : Exit → Act → World → Prop} {b k : Nat} {o : OpV} (hr : w.rangeAt b k o.cells.toList)
  (hgd : op.guard = none) (x : Operand) (ho : op.op = .load 33 x) (hx : a.eval x = .pointer (some ⟨b, k, none⟩))
  (hK : wpList Try.prog ops Q rest (a.put op.dst (.agg o.cells)) w) : wpList Try.prog ops Q (op :: rest) a w := by
 obtain ⟨d, hd, hrow⟩ : ∃ d, Try.prog.underlying 33 = some d ∧ d.isRow = true := ⟨_, Try.underlying33, rfl⟩
 have hi : (Try.prog.info? 33).map (·.size) = some 5 := by kernel_rfl
 exact wpList_load_mid hgd 33 x ho b k hx o.cells.toList d hr hd hrow (by rw [hi]; rfl) (by simpa using hK)
end Go.Proofs.Ytpfbodmadmneiaa
namespace Go.Proofs.Ytpfbodmadmneiaa
open Go.ChangeShapes Go.WideShapes Go.ChangeAt Go.RowKit
set_option linter.unusedVariables false
set_option linter.unusedSimpArgs false
set_option maxRecDepth 100000
/-- Bytes that are a state. -/
structure Sta (f : M) : Prop where
 line : f 8356 < 154
 dot : f 8363 < 114
 stat : bits .andNot .u8 (f 8353) 120 = 0
 act : f 8367 ≤ 1
 shade : ∀ j, j < 23040 → f (8368 + j) ≤ 3
set_option maxHeartbeats 2000000 in
theorem is_1 (g cc : Nat) (hcc : 31408 ≤ cc) (f : M) (w : World) (hc : ∀ j, j < 31408 → w.cell? ⟨g, j, none⟩ = some (.int .u8 (f j))) (x1 x2 x3 x4 : Int) (h1 : f 8356 = x1) (h2 : f 8363 = x2) (h3 : f 8353 = x3) (h4 : f 8367 = x4) (g1 : 154 ≤ x1) : Calls Try.prog 36 #[.slice (some ⟨g, 0, none⟩) 31408 cc] w fun q_ w' => q_ = .returned (.bool false) ∧ w' = w := by
 have ncc : ¬ cc = 8368 := by omega
 have e1 := hc 8356 (by decide)
 have e2 := hc 8363 (by decide)
 have e3 := hc 8353 (by decide)
 have e4 := hc 8367 (by decide)
 rw [h1] at e1
 rw [h2] at e2
 rw [h3] at e3
 rw [h4] at e4
 have HC := Lib.hid hc
 clear hc h1 h2 h3 h4
 go_enter Try.func36, Try.ntmps36
 go_wp2
 all_goals exact bodyPost_ret (v := .bool false) (by simp [results, Try.results36, go_sem]) rfl ⟨rfl, rfl⟩
set_option maxHeartbeats 2000000 in
theorem is_2 (g cc : Nat) (hcc : 31408 ≤ cc) (f : M) (w : World) (hc : ∀ j, j < 31408 → w.cell? ⟨g, j, none⟩ = some (.int .u8 (f j))) (x1 x2 x3 x4 : Int) (h1 : f 8356 = x1) (h2 : f 8363 = x2) (h3 : f 8353 = x3) (h4 : f 8367 = x4) (g1 : ¬ 154 ≤ x1) (g2 : 114 ≤ x2) : Calls Try.prog 36 #[.slice (some ⟨g, 0, none⟩) 31408 cc] w fun q_ w' => q_ = .returned (.bool false) ∧ w' = w := by
 have ncc : ¬ cc = 8368 := by omega
 have e1 := hc 8356 (by decide)
 have e2 := hc 8363 (by decide)
 have e3 := hc 8353 (by decide)
 have e4 := hc 8367 (by decide)
 rw [h1] at e1
 rw [h2] at e2
 rw [h3] at e3
 rw [h4] at e4
 have HC := Lib.hid hc
 clear hc h1 h2 h3 h4
 go_enter Try.func36, Try.ntmps36
 go_wp2
 all_goals exact bodyPost_ret (v := .bool false) (by simp [results, Try.results36, go_sem]) rfl ⟨rfl, rfl⟩
set_option maxHeartbeats 2000000 in
theorem is_3 (g cc : Nat) (hcc : 31408 ≤ cc) (f : M) (w : World) (hc : ∀ j, j < 31408 → w.cell? ⟨g, j, none⟩ = some (.int .u8 (f j))) (x1 x2 x3 x4 : Int) (h1 : f 8356 = x1) (h2 : f 8363 = x2) (h3 : f 8353 = x3) (h4 : f 8367 = x4) (g1 : ¬ 154 ≤ x1) (g2 : ¬ 114 ≤ x2) (g3 : (bits .andNot .u8 x3 120 != 0) = true) : Calls Try.prog 36 #[.slice (some ⟨g, 0, none⟩) 31408 cc] w fun q_ w' => q_ = .returned (.bool false) ∧ w' = w := by
 have ncc : ¬ cc = 8368 := by omega
 have e1 := hc 8356 (by decide)
 have e2 := hc 8363 (by decide)
 have e3 := hc 8353 (by decide)
 have e4 := hc 8367 (by decide)
 rw [h1] at e1
 rw [h2] at e2
 rw [h3] at e3
 rw [h4] at e4
 have HC := Lib.hid hc
 clear hc h1 h2 h3 h4
 go_enter Try.func36, Try.ntmps36
 go_wp2
 all_goals exact bodyPost_ret (v := .bool false) (by simp [results, Try.results36, go_sem]) rfl ⟨rfl, rfl⟩
set_option maxHeartbeats 2000000 in
theorem is_4 (g cc : Nat) (hcc : 31408 ≤ cc) (f : M) (w : World) (hc : ∀ j, j < 31408 → w.cell? ⟨g, j, none⟩ = some (.int .u8 (f j))) (x1 x2 x3 x4 : Int) (h1 : f 8356 = x1) (h2 : f 8363 = x2) (h3 : f 8353 = x3) (h4 : f 8367 = x4) (g1 : ¬ 154 ≤ x1) (g2 : ¬ 114 ≤ x2) (g3 : (bits .andNot .u8 x3 120 != 0) = false) (g4 : 1 < x4) : Calls Try.prog 36 #[.slice (some ⟨g, 0, none⟩) 31408 cc] w fun q_ w' => q_ = .returned (.bool false) ∧ w' = w := by
 have ncc : ¬ cc = 8368 := by omega
 have e1 := hc 8356 (by decide)
 have e2 := hc 8363 (by decide)
 have e3 := hc 8353 (by decide)
 have e4 := hc 8367 (by decide)
 rw [h1] at e1
 rw [h2] at e2
 rw [h3] at e3
 rw [h4] at e4
 have HC := Lib.hid hc
 clear hc h1 h2 h3 h4
 go_enter Try.func36, Try.ntmps36
 go_wp2
 all_goals exact bodyPost_ret (v := .bool false) (by simp [results, Try.results36, go_sem]) rfl ⟨rfl, rfl⟩
set_option maxHeartbeats 2000000 in
theorem is_5 (g cc : Nat) (hcc : 31408 ≤ cc) (f : M) (w : World) (hc : ∀ j, j < 31408 → w.cell? ⟨g, j, none⟩ = some (.int .u8 (f j))) (x1 x2 x3 x4 : Int) (h1 : f 8356 = x1) (h2 : f 8363 = x2) (h3 : f 8353 = x3) (h4 : f 8367 = x4) (g1 : ¬ 154 ≤ x1) (g2 : ¬ 114 ≤ x2) (g3 : (bits .andNot .u8 x3 120 != 0) = false) (g4 : ¬ 1 < x4) (z : Bool) (hz : z = true ↔ ∀ j, j < 23040 → f (8368 + j) ≤ 3) : Calls Try.prog 36 #[.slice (some ⟨g, 0, none⟩) 31408 cc] w fun q_ w' => q_ = .returned (.bool z) ∧ w' = w := by
 have ncc : ¬ cc = 8368 := by omega
 have e1 := hc 8356 (by decide)
 have e2 := hc 8363 (by decide)
 have e3 := hc 8353 (by decide)
 have e4 := hc 8367 (by decide)
 rw [h1] at e1
 rw [h2] at e2
 rw [h3] at e3
 rw [h4] at e4
 have HC := Lib.hid hc
 clear hc h1 h2 h3 h4
 have HZ := Lib.hid hz
 clear hz
 go_enter Try.func36, Try.ntmps36
 go_wp2
 go_loopg [29] 23040 (fun g' i wr => ∃ (t : Nat), t ≤ 23040 ∧ g' + t = 23040 ∧ i = .int .i64 t ∧ wr = w ∧ Hid (∀ j, j < t → f (8368 + j) ≤ 3))
 case atStart => exact ⟨0, by omega, by omega, rfl, rfl, Lib.hid (fun j hj => absurd hj (by omega))⟩
 case round =>
  obtain ⟨t, ht, hg, rfl, rfl, HE⟩ := hrel
  have TG := Lib.hid hg
  clear hg
  by_cases hlt : t < 23040
  ·have l1 : (t : Int) < 23040 := by omega
   have e5 := HC.out (8368 + t) (by omega)
   obtain ⟨x, hx⟩ : ∃ x, x = f (8368 + t) := ⟨_, rfl⟩
   rw [← hx] at e5
   have HX := Lib.hid hx
   clear hx
   by_cases q : 3 < x
   ·have ez : z = false := by
     cases z with
     | false => rfl
     | true => have := HZ.out.1 rfl t hlt; have := HX.out; omega
    subst ez
    go_wp2
    all_goals exact bodyPost_ret (v := .bool false) (by simp [results, Try.results36, go_sem]) rfl ⟨rfl, rfl⟩
   ·go_wp2
    go_roundg (gk - 1)
    ·refine ⟨t + 1, by omega, by have := TG.out; omega, by simp, rfl, Lib.hid (fun j hj => ?_)⟩
     by_cases e : j = t
     ·subst e; have := HX.out; omega
     ·exact HE.out j (by omega)
    case measure => have := TG.out; omega
  ·have ez : z = true := HZ.out.2 fun j hj => HE.out j (by omega)
   subst ez
   go_wp2
   all_goals exact bodyPost_ret (v := .bool true) (by simp [results, Try.results36, go_sem]) rfl ⟨rfl, rfl⟩
/-- Are bytes a state? -/
theorem is_c (z : Bool) (f : M) (hz : z = true ↔ Sta f) (v : Value) (g : Nat) (w : World) (hR : RowB w v 31408 f g) : Calls Try.prog 36 #[v] w fun q_ w' => q_ = .returned (.bool z) ∧ w' = w := by
 obtain ⟨cc, rfl, hcc, _, hc, _⟩ := hR
 have no : ∀ {p : Prop}, p → (p → ¬ Sta f) → z = false := fun hp h => by
  cases z with
  | false => rfl
  | true => exact absurd (hz.1 rfl) (h hp)
 by_cases g1 : 154 ≤ f 8356
 ·rw [no g1 (fun h s => by have := s.line; omega)]; exact is_1 g cc hcc f w hc _ _ _ _ rfl rfl rfl rfl g1
 by_cases g2 : 114 ≤ f 8363
 ·rw [no g2 (fun h s => by have := s.dot; omega)]; exact is_2 g cc hcc f w hc _ _ _ _ rfl rfl rfl rfl g1 g2
 by_cases g3 : bits .andNot .u8 (f 8353) 120 = 0
 ·by_cases g4 : 1 < f 8367
  ·rw [no g4 (fun h s => by have := s.act; omega)]; exact is_4 g cc hcc f w hc _ _ _ _ rfl rfl rfl rfl g1 g2 (by simp [g3]) g4
  ·exact is_5 g cc hcc f w hc _ _ _ _ rfl rfl rfl rfl g1 g2 (by simp [g3]) g4 z ⟨fun h => (hz.1 h).shade, fun h => hz.2 ⟨by omega, by omega, g3, by omega, h⟩⟩
 ·rw [no g3 (fun h s => h s.stat)]; exact is_3 g cc hcc f w hc _ _ _ _ rfl rfl rfl rfl g1 g2 (by simp [g3])
end Go.Proofs.Ytpfbodmadmneiaa
namespace Go.Proofs.Ytpfbodmadmneiaa
open Go.ChangeShapes Go.WideShapes Go.ChangeAt Go.RowKit
set_option linter.unusedVariables false
set_option linter.unusedSimpArgs false
set_option maxRecDepth 100000
theorem wp_copy_run {P : Program} {w w' : World} {o : Oper} {a : Act} {K : Act → World → Prop} {Q : Exit → Act → World → Prop} (s x : Operand) (t : TypeId) (v u v' : Value)
  (ho : o.op = .call { callee := .builtin .copy, args := #[s, x], argTypes := #[t, t] }) (hs : a.eval s = v) (hx : a.eval x = u)
  (hr : (Builtin.copy_ #[t, t] o.type #[v, u]).run P w = .ok v' w') (h : K (a.put o.dst v') w') : o.wp P a w K Q := by
 unfold Oper.wp execOp
 simp only [ho, resolve, invoke, builtin, Sem.run_bind, Sem.run_pure, Result.andThen_ok, List.map_toArray, List.map_cons, List.map_nil, hs, hx, hr]
 exact h
theorem wpList_copy_run {P : Program} {w w' : World} {ops : Array Oper} {rest : List Oper} {o : Oper} {a : Act} {Q : Exit → Act → World → Prop} (hgd : o.guard = none) (s x : Operand) (t : TypeId) (v u v' : Value)
  (ho : o.op = .call { callee := .builtin .copy, args := #[s, x], argTypes := #[t, t] }) (hs : a.eval s = v) (hx : a.eval x = u)
  (hr : (Builtin.copy_ #[t, t] o.type #[v, u]).run P w = .ok v' w') (h : wpList P ops Q rest (a.put o.dst v') w') : wpList P ops Q (o :: rest) a w :=
 wpList_plain hgd fun _ hK => wp_copy_run s x t v u v' ho hs hx hr (hK _ _ h)
theorem encU_congr (m m2 : M) (h : ∀ o, o < 31407 → m o = m2 o) : encU m = encU m2 := by
 apply Array.ext_getElem?
 intro o
 by_cases ho : o < 31407
 ·rw [encU_get _ _ ho, encU_get _ _ ho, h o ho]
 ·rw [Array.getElem?_eq_none (by rw [encU_size]; omega), Array.getElem?_eq_none (by rw [encU_size]; omega)]
theorem Has.urown {w : World} {b : Nat} {m : M} (h : Has w b (encU m)) (k n : Nat) (r : M) (h1 : k + n ≤ 8365 ∨ 8367 ≤ k) (h2 : k + n ≤ 31407) : Has (w.setCells b k (bl r n)) b (encU (row m k n r)) := by
 refine h.putRow k _ (by rw [bl_len, encU_size]; exact h2) (fun j hj => ?_) (fun o ho => ?_)
 ·rw [bl_len] at hj
  rw [encU_u _ _ (by omega) (by omega) (by omega), row_in _ _ _ _ _ (by omega) (by omega), Nat.add_sub_cancel_left, bl_at r n j hj]
 ·rw [bl_len] at ho
  by_cases ho2 : o < 31407
  ·rw [encU_get _ _ ho2, encU_get _ _ ho2, row_out _ _ _ _ _ (by omega)]
  ·rw [Array.getElem?_eq_none (by rw [encU_size]; omega), Array.getElem?_eq_none (by rw [encU_size]; omega)]
/-- Bytes are copied into a unit. -/
theorem cp_run {w : World} {b : Nat} {m : M} (h : Has w b (encU m)) (k n : Nat) (r : M) (h1 : k + n ≤ 8365 ∨ 8367 ≤ k) (h2 : k + n ≤ 31407) (ty : TypeId) (dc sg so sl sc : Nat)
  (hs : ∀ j, j < n → w.cell? ⟨sg, so + j, none⟩ = some (.int .u8 (r j))) (hn : n ≤ sl) :
  ∃ v' w', (Builtin.copy_ #[31, 31] ty #[.slice (some ⟨b, k, none⟩) n dc, .slice (some ⟨sg, so, none⟩) sl sc]).run Try.prog w = .ok v' w' ∧ Has w' b (encU (row m k n r)) ∧ Keeps b w w' := by
 have hi : (Try.prog.info? 5).map (·.size) = some 1 := by kernel_rfl
 refine ⟨_, _, run_copy_cells (P := Try.prog) w 31 31 ty 5 b k n dc ⟨sg, so, none⟩ sl sc (bl r n) Try.underlying31 hi (by rw [bl_len]; exact (Nat.min_eq_right hn).symm) (fun j v hj => ?_) (fun j hj => ?_) (fun j hj => h.2.2 _) (bl_one r n), h.urown k n r h1 h2, Keeps.setCells _ k (Keeps.refl b w)⟩
 ·have hj2 : j < n := by
   obtain ⟨q, _⟩ := List.getElem?_eq_some_iff.1 hj
   rwa [bl_len] at q
  rw [bl_at r n j hj2] at hj
  rw [← hj, ← hs j hj2, Go.WideShapes.add_plain]
 ·rw [bl_len] at hj
  rw [h.2.1, encU_get _ _ (by omega)]; rfl
theorem wp_put_g {t : TypeId} {op : Oper} {a : Act} {w : World} {K : Act → World → Prop} {Q : Exit → Act → World → Prop} {b : Nat} {A : Array Value} (h : Has w b A) (A2 : Array Value)
  (x y : Operand) (ho : op.op = .store t x y) (o : Nat) (hx : a.eval x = .pointer (some ⟨b, o, none⟩)) (v : Value) (hy : a.eval y = v)
  (hs : (storeVar t ⟨b, o, none⟩ v).run Try.prog w = .ok () (w.setCell ⟨b, o, none⟩ v)) (h2 : o < A.size) (hA : A.setIfInBounds o v = A2)
  (hK : ∀ w', Has w' b A2 → Keeps b w w' → K (a.put op.dst undef) w') : op.wp Try.prog a w K Q := by
 subst hA
 unfold Oper.wp execOp
 simp only [ho, hx, hy, Instr.storeAt, Instr.sureAddr, Sem.run_bind, Sem.run_pure, Result.andThen_ok, hs]
 exact hK _ (h.set o v h2) ((Keeps.refl b w).setCell o _)
theorem wp_ust_u {op : Oper} {a : Act} {w : World} {K : Act → World → Prop} {Q : Exit → Act → World → Prop} {b : Nat} {m : M} (h : Has w b (encU m))
  (x y : Operand) (ho : op.op = .store 5 x y) (o : Nat) (hx : a.eval x = .pointer (some ⟨b, o, none⟩)) (z : Int) (hy : a.eval y = .int .u8 z) (h1 : o < 31407) (h3 : o ≠ 8365) (h4 : o ≠ 8366)
  (hK : ∀ w', Has w' b (encU (upd m o z)) → Keeps b w w' → K (a.put op.dst undef) w') : op.wp Try.prog a w K Q :=
 wp_put_g h _ x y ho o hx _ hy (sv_u h (encU_u m o h1 h3 h4)) (by rw [encU_size]; exact h1) (by rw [← ucell_u o z h3 h4, encU_set m o z h1]) hK
theorem wp_store_f {op : Oper} {a : Act} {w : World} {K : Act → World → Prop} {Q : Exit → Act → World → Prop} {b : Nat} {m : M} (h : Has w b (encU m))
  (x y : Operand) (ho : op.op = .store 30 x y) (hx : a.eval x = .pointer (some ⟨b, 8365, none⟩)) (z : Int) (hy : a.eval y = .int .u16 z)
  (hK : ∀ w', Has w' b (encU (upd m 8365 z)) → Keeps b w w' → K (a.put op.dst undef) w') : op.wp Try.prog a w K Q :=
 wp_put_g h _ x y ho 8365 hx _ hy (sv_w h (encU_f m)) (by rw [encU_size]; decide) (encU_set m 8365 z (by decide)) hK
theorem or_lo (h l : Int) (h1 : 0 ≤ h) (h2 : h < 256) (h3 : 0 ≤ l) (h4 : l < 256) : bits .or .u16 (IntKind.u16.wrap l) (IntKind.u16.wrap (IntKind.u16.wrap h * 256)) = l + 256 * h := by
 have e1 : IntKind.u16.wrap h = h := by show h % 65536 = h; omega
 have e2 : IntKind.u16.wrap l = l := by show l % 65536 = l; omega
 have e3 : IntKind.u16.wrap (h * 256) = h * 256 := by show h * 256 % 65536 = h * 256; omega
 rw [e1, e2, e3, u16_or _ _ (by omega) (by omega) (by omega) (by omega)]
 obtain ⟨m, rfl⟩ := Int.eq_ofNat_of_zero_le h1
 obtain ⟨k, rfl⟩ := Int.eq_ofNat_of_zero_le h3
 have e4 : ((m : Int) * 256).toNat = 2 ^ 8 * m := by omega
 have e5 : (k : Int).toNat = k := rfl
 rw [e4, e5, Nat.or_comm, ← Nat.two_pow_add_eq_or_of_lt (by omega)]
 omega
/-- What bytes are decoded to. -/
def decM (f : M) : M := fun o => if o < 8365 then f o else if o = 8365 then f 8365 + 256 * f 8366 else if o = 8366 then (if f 8367 = 0 then 0 else 1) else f (o + 1)
def tk3 (m f : M) : M := row (row (row m 0 8192 f) 8192 160 (fun j => f (8192 + j))) 8352 11 (fun j => f (8352 + j))
def tk5 (m f : M) : M := upd (upd (upd (upd (tk3 m f) 8363 (f 8363)) 8364 (f 8364)) 8365 (f 8365 + 256 * f 8366)) 8366 (tf (f 8367 != 0))
def tk6 (m f : M) (t : Nat) : M := row (tk5 m f) 8367 (160 * t) (fun j => f (8368 + j))
theorem upd_comm (m : M) (o k : Nat) (x y : Int) (h : o ≠ k) : upd (upd m o x) k y = upd (upd m k y) o x := by
 funext i
 unfold upd
 by_cases e : i = o
 ·subst e; simp [h]
 ·by_cases e2 : i = k
  ·subst e2; simp [e]
  ·simp [e, e2]
theorem tk6_succ (m f : M) (t : Nat) : row (tk6 m f t) (8367 + t * 160) 160 (fun j => f (8368 + t * 160 + j)) = tk6 m f (t + 1) := by
 funext o
 unfold tk6 row
 by_cases h1 : 8367 ≤ o ∧ o < 8367 + 160 * (t + 1)
 ·rw [if_pos h1]
  by_cases h2 : 8367 + t * 160 ≤ o ∧ o < 8367 + t * 160 + 160
  ·rw [if_pos h2]
   show f (8368 + t * 160 + (o - (8367 + t * 160))) = f (8368 + (o - 8367))
   rw [show 8368 + t * 160 + (o - (8367 + t * 160)) = 8368 + (o - 8367) by omega]
  ·rw [if_neg h2, if_pos (by omega)]
 ·rw [if_neg h1, if_neg (by omega), if_neg (by omega)]
theorem tk6_end (m f : M) : encU (tk6 m f 144) = encU (decM f) := encU_congr _ _ fun o ho => by
 unfold tk6 decM
 by_cases h1 : 8367 ≤ o
 ·rw [row_in _ _ _ _ _ h1 (by omega), if_neg (by omega), if_neg (by omega), if_neg (by omega), show 8368 + (o - 8367) = o + 1 by omega]
 ·rw [row_out _ _ _ _ _ (by omega)]
  unfold tk5
  by_cases h2 : o = 8366
  ·subst h2
   rw [upd_same, if_neg (by omega), if_neg (by omega), if_pos rfl]
   by_cases q : f 8367 = 0 <;> simp [q, tf]
  ·rw [upd_ne _ _ _ _ h2]
   by_cases h3 : o = 8365
   ·subst h3
    rw [upd_same, if_neg (by omega), if_pos rfl]
   ·rw [upd_ne _ _ _ _ h3, if_pos (by omega)]
    by_cases h4 : o = 8364
    ·subst h4; rw [upd_same]
    ·rw [upd_ne _ _ _ _ h4]
     by_cases h5 : o = 8363
     ·subst h5; rw [upd_same]
     ·rw [upd_ne _ _ _ _ h5]
      unfold tk3
      by_cases h6 : 8352 ≤ o
      ·rw [row_in _ _ _ _ _ h6 (by omega), show 8352 + (o - 8352) = o by omega]
      ·rw [row_out _ _ _ _ _ (by omega)]
       by_cases h7 : 8192 ≤ o
       ·rw [row_in _ _ _ _ _ h7 (by omega), show 8192 + (o - 8192) = o by omega]
       ·rw [row_out _ _ _ _ _ (by omega), row_in _ _ _ _ _ (by omega) (by omega)]; rfl
set_option maxHeartbeats 8000000 in
theorem take_c (b : Nat) (m : M) (g cc : Nat) (hcc : 31408 ≤ cc) (f : M) (hf : ∀ j, j < 31408 → 0 ≤ f j ∧ f j < 256) (hgb : g ≠ b) (w : World) (hg : g < w.heap.size) (hc : ∀ j, j < 31408 → w.cell? ⟨g, j, none⟩ = some (.int .u8 (f j))) (h : Has w b (encU m)) :
  Calls Try.prog 37 #[.pointer (some ⟨b, 0, none⟩), .slice (some ⟨g, 0, none⟩) 31408 cc] w fun q_ w' => q_ = .returned (.tuple #[]) ∧ Has w' b (encU (decM f)) ∧ Keeps b w w' := by
 have HC := Lib.hid (show ∀ u, Keeps b w u → ∀ j, j < 31408 → u.cell? ⟨g, j, none⟩ = some (.int .u8 (f j)) from fun u hk j hj => ((cell_block (hk.block g hg hgb) j).1).trans (hc j hj))
 have P0 := Lib.hid h
 have HF := Lib.hid hf
 obtain ⟨u0, hu0⟩ : ∃ u0, u0 = w := ⟨_, rfl⟩
 have K0 := Lib.hid (show Keeps b w u0 by rw [hu0]; exact Keeps.refl b w)
 rw [← hu0] at P0
 have ncc : ¬ cc = 8192 := by omega
 have ncc2 : ¬ cc = 8352 := by omega
 suffices hall : Calls Try.prog 37 #[.pointer (some ⟨b, 0, none⟩), .slice (some ⟨g, 0, none⟩) 31408 cc] u0 fun q_ w' => q_ = .returned (.tuple #[]) ∧ Has w' b (encU (decM f)) ∧ Keeps b w w' by rwa [hu0] at hall
 clear hc h hf hu0
 go_enter Try.func37, Try.ntmps37
 obtain ⟨vc, u1, hr, hP, hk⟩ := cp_run P0.out 0 8192 f (by omega) (by omega) 3 8192 g 0 31408 cc (fun j hj => by rw [Nat.zero_add]; exact HC.out _ K0.out j (by omega)) (by omega)
 go_upto_region 1 with (fail)
 have P1 := Lib.hid hP
 have K1 := Lib.hid (K0.out.trans hk)
 clear hP hk hr K0 P0
 have P2 := Lib.hid P1.out.drew
 have K2 := Lib.hid K1.out.drew
 clear P1 K1
 refine wp_region_held_drew (S := (fun w' => True)) (by kernel_rfl) trivial (fun hHeld => ?_)
 generalize World.drew _ = u2 at hHeld P2 K2 ⊢
 refine tzz 0 ?_
 refine tzz 1 ?_
 refine tzz 2 ?_
 refine tzz 3 ?_
 refine tzz 4 ?_
 refine tzz 5 ?_
 refine wpAnyH_ready (rs := [6]) (by kernel_rfl) (by simp) ?_
 refine (acc rfl (fun K hK => ?_) AllReadyH.nil)
 ·skip
  obtain ⟨vc, u3, hr, hP, hk⟩ := cp_run P2.out 8192 160 (fun j => f (8192 + j)) (by omega) (by omega) 3 160 g 8192  (31408 - 8192) (cc - 8192) (fun j hj => by first | exact HC.out _ K2.out _ (by omega) | (have := HC.out _ K2.out (8192 + j) (by omega); simpa using this)) (by omega)
  have RUN := Lib.hid hr
  clear hr
  refine wp_copy_run _ _ _ (.slice (some ⟨b, 8192, none⟩) 160 160) (.slice (some ⟨g, 8192, none⟩)  (31408 - 8192) (cc - 8192)) _ rfl rfl rfl RUN.out ?_
  try simp only [Act.put, qqA, qqB, qqC]
  have P3 := Lib.hid hP
  have K3 := Lib.hid (K2.out.trans hk)
  clear hP hk RUN K2 P2
  refine hK.out _ _ ?s1 (fun hNew => ?r1)
  case s1 => exact trivial
  clear hK K hHeld
  have hHeld := hNew
  clear hNew
  refine wpAnyH_done (by kernel_rfl) ?_ _
  clear hHeld
  go_upto_region 2 with (fail)
  have P4 := Lib.hid P3.out.drew
  have K4 := Lib.hid K3.out.drew
  clear P3 K3
  refine wp_region_held_drew (S := (fun w' => True)) (by kernel_rfl) trivial (fun hHeld => ?_)
  generalize World.drew _ = u4 at hHeld P4 K4 ⊢
  refine tzz 0 ?_
  refine tzz 1 ?_
  refine tzz 2 ?_
  refine tzz 3 ?_
  refine tzz 4 ?_
  refine tzz 5 ?_
  refine wpAnyH_ready (rs := [6]) (by kernel_rfl) (by simp) ?_
  refine (acc rfl (fun K hK => ?_) AllReadyH.nil)
  ·skip
   obtain ⟨vc, u5, hr, hP, hk⟩ := cp_run P4.out 8352 11 (fun j => f (8352 + j)) (by omega) (by omega) 3 11 g 8352  (31408 - 8352) (cc - 8352) (fun j hj => by first | exact HC.out _ K4.out _ (by omega) | (have := HC.out _ K4.out (8352 + j) (by omega); simpa using this)) (by omega)
   have RUN := Lib.hid hr
   clear hr
   refine wp_copy_run _ _ _ (.slice (some ⟨b, 8352, none⟩) 11 11) (.slice (some ⟨g, 8352, none⟩)  (31408 - 8352) (cc - 8352)) _ rfl rfl rfl RUN.out ?_
   try simp only [Act.put, qqA, qqB, qqC]
   have P5 := Lib.hid hP
   have K5 := Lib.hid (K4.out.trans hk)
   clear hP hk RUN K4 P4
   refine hK.out _ _ ?s2 (fun hNew => ?r2)
   case s2 => exact trivial
   clear hK K hHeld
   have hHeld := hNew
   clear hNew
   refine wpAnyH_done (by kernel_rfl) ?_ _
   clear hHeld
   go_upto_region 3 with (fail)
   have P6 := Lib.hid P5.out.drew
   have K6 := Lib.hid K5.out.drew
   clear P5 K5
   refine wp_region_held_drew (S := (fun w' => w'.cell? ⟨g, 8363, none⟩ = some (.int .u8 (f 8363)) ∧ w'.cell? ⟨g, 8364, none⟩ = some (.int .u8 (f 8364)))) (by kernel_rfl) ⟨HC.out _ K6.out 8363 (by decide), HC.out _ K6.out 8364 (by decide)⟩ (fun hHeld => ?_)
   generalize World.drew _ = u6 at hHeld P6 K6 ⊢
   refine tzz 0 ?_
   refine tzz 1 ?_
   refine tzz 2 ?_
   refine tzz 3 ?_
   refine tzz 4 ?_
   refine tzz 5 ?_
   refine tzz 6 ?_
   refine tzz 7 ?_
   refine tzz 8 ?_
   refine tzz 9 ?_
   refine wpAnyH_ready (rs := [10]) (by kernel_rfl) (by simp) ?_
   refine (acc rfl (fun K hK => ?_) AllReadyH.nil)
   ·skip
    refine wp_ust_u P6.out _ _ rfl 8363 rfl _ rfl (by decide) (by decide) (by decide) ?_
    intro u7 hP hk
    try simp only [Act.put, qqA, qqB, qqC]
    have P7 := Lib.hid hP
    have K7 := Lib.hid (K6.out.trans hk)
    clear hP hk K6 P6
    refine hK.out _ _ ?s3 (fun hNew => ?r3)
    case s3 => exact ⟨HC.out _ K7.out 8363 (by decide), HC.out _ K7.out 8364 (by decide)⟩
    clear hK K hHeld
    have hHeld := hNew
    clear hNew
    refine tzz 11 ?_
    refine tzz 12 ?_
    refine wpAnyH_ready (rs := [13]) (by kernel_rfl) (by simp) ?_
    refine (acc rfl (fun K hK => ?_) AllReadyH.nil)
    ·skip
     refine wp_ust_u P7.out _ _ rfl 8364 rfl _ rfl (by decide) (by decide) (by decide) ?_
     intro u8 hP hk
     try simp only [Act.put, qqA, qqB, qqC]
     have P8 := Lib.hid hP
     have K8 := Lib.hid (K7.out.trans hk)
     clear hP hk K7 P7
     refine hK.out _ _ ?s4 (fun hNew => ?r4)
     case s4 => exact ⟨HC.out _ K8.out 8363 (by decide), HC.out _ K8.out 8364 (by decide)⟩
     clear hK K hHeld
     have hHeld := hNew
     clear hNew
     refine wpAnyH_done (by kernel_rfl) ?_ _
     clear hHeld
     go_upto_region 4 with (fail)
     have P9 := Lib.hid P8.out.drew
     have K9 := Lib.hid K8.out.drew
     clear P8 K8
     refine wp_region_held_drew (S := (fun w' => w'.cell? ⟨g, 8365, none⟩ = some (.int .u8 (f 8365)) ∧ w'.cell? ⟨g, 8366, none⟩ = some (.int .u8 (f 8366)))) (by kernel_rfl) ⟨HC.out _ K9.out 8365 (by decide), HC.out _ K9.out 8366 (by decide)⟩ (fun hHeld => ?_)
     generalize World.drew _ = u9 at hHeld P9 K9 ⊢
     refine tzz 0 ?_
     refine tzz 1 ?_
     refine tzz 2 ?_
     refine tzz 3 ?_
     refine tzz 4 ?_
     refine tzz 5 ?_
     refine tzz 6 ?_
     refine tzz 7 ?_
     refine tzz 8 ?_
     refine tzz 9 ?_
     refine tzz 10 ?_
     refine tzz 11 ?_
     refine tzz 12 ?_
     refine wpAnyH_ready (rs := [13]) (by kernel_rfl) (by simp) ?_
     refine (acc rfl (fun K hK => ?_) AllReadyH.nil)
     ·skip
      refine wp_store_f P9.out _ _ rfl rfl _ rfl ?_
      intro u10 hP hk
      try simp only [Act.put, qqA, qqB, qqC]
      have P10 := Lib.hid hP
      have K10 := Lib.hid (K9.out.trans hk)
      clear hP hk K9 P9
      refine hK.out _ _ ?s5 (fun hNew => ?r5)
      case s5 => exact ⟨HC.out _ K10.out 8365 (by decide), HC.out _ K10.out 8366 (by decide)⟩
      clear hK K hHeld
      have hHeld := hNew
      clear hNew
      refine wpAnyH_done (by kernel_rfl) ?_ _
      clear hHeld
      rw [or_lo _ _ (HF.out 8366 (by decide)).1 (HF.out 8366 (by decide)).2 (HF.out 8365 (by decide)).1 (HF.out 8365 (by decide)).2] at P10
      have e7 := HC.out _ K10.out 8367 (by decide)
      go_wp2_with (refine store_s P10.out rfl _ _ rfl rfl (f 8367 != 0) rfl ?_)
      intro u11 hP hk
      try simp only [Act.put, qqA, qqB, qqC]
      have P11 := Lib.hid (show Has u11 b (encU (tk6 m f 0)) from by rw [show tk6 m f 0 = tk5 m f from by funext o; exact row_out _ _ _ _ _ (by omega)]; exact hP)
      have K11 := Lib.hid (K10.out.trans hk)
      clear hP hk e7 K10 P10
      go_wp2
      go_loopg [57] 144 (fun g' i wr => ∃ (t : Nat), t ≤ 144 ∧ g' + t = 144 ∧ i = .int .i64 t ∧ Has wr b (encU (tk6 m f t)) ∧ Keeps b w wr)
      case atStart => exact ⟨0, by omega, by omega, rfl, P11.out, K11.out⟩
      case round =>
       obtain ⟨t, ht, hg_, rfl, hP, hk⟩ := hrel
       have TG := Lib.hid hg_
       have P12 := Lib.hid hP
       have K12 := Lib.hid hk
       clear hg_ hP hk P11 K11
       obtain ⟨u12, hu⟩ : ∃ q_, q_ = wr := ⟨_, rfl⟩
       subst hu
       by_cases hlt : t < 144
       ·have l1 : (t : Int) < 144 := by omega
        have wa : IntKind.i64.wrap ((t : Int) * 160) = (t : Int) * 160 := by rw [IntKind.wrap_i64]; omega
        have wb : IntKind.i64.wrap (8368 + (t : Int) * 160) = 8368 + (t : Int) * 160 := by rw [IntKind.wrap_i64]; omega
        have nc3 : ¬ cc = 8368 + t * 160 := by omega
        have wc1 : 0 ≤ 8368 + (t : Int) * 160 := by omega
        have wc2 : 8368 + (t : Int) * 160 ≤ 31408 := by omega
        have wd : (8368 + (t : Int) * 160).toNat = 8368 + t * 160 := by omega
        go_upto_region 9 with (fail)
        have P13 := Lib.hid P12.out.drew
        have K13 := Lib.hid K12.out.drew
        clear P12 K12
        refine wp_region_held_drew (S := (fun w' => True)) (by kernel_rfl) trivial (fun hHeld => ?_)
        generalize World.drew _ = u13 at hHeld P13 K13 ⊢
        refine tzz 0 ?_
        refine tzz 1 ?_
        refine tzz 2 ?_
        refine tzz 3 ?_
        refine tzz 4 ?_
        refine tzz 5 ?_
        refine tzz 6 ?_
        refine tzz 7 ?_
        refine tzz 8 ?_
        refine tzz 9 ?_
        refine tzz 10 ?_
        refine wpAnyH_ready (rs := [11]) (by kernel_rfl) (by simp) ?_
        refine (acc rfl (fun K hK => ?_) AllReadyH.nil)
        ·skip
         obtain ⟨vc, u14, hr, hP, hk⟩ := cp_run P13.out (8367 + t * 160) 160 (fun j => f (8368 + t * 160 + j)) (by omega) (by omega) 3 160 g (8368 + t * 160)  (31408 - (8368 + t * 160)) (cc - (8368 + t * 160)) (fun j hj => by first | exact HC.out _ K13.out _ (by omega) | (have := HC.out _ K13.out ((8368 + t * 160) + j) (by omega); simpa using this)) (by omega)
         have RUN := Lib.hid hr
         clear hr
         refine wp_copy_run _ _ _ (.slice (some ⟨b, (8367 + t * 160), none⟩) 160 160) (.slice (some ⟨g, (8368 + t * 160), none⟩)  (31408 - (8368 + t * 160)) (cc - (8368 + t * 160))) _ rfl rfl rfl RUN.out ?_
         try simp only [Act.put, qqA, qqB, qqC]
         have P14 := Lib.hid hP
         have K14 := Lib.hid (K13.out.trans hk)
         clear hP hk RUN K13 P13
         refine hK.out _ _ ?s6 (fun hNew => ?r6)
         case s6 => exact trivial
         clear hK K hHeld
         have hHeld := hNew
         clear hNew
         refine wpAnyH_done (by kernel_rfl) ?_ _
         clear hHeld
         go_wp2
         go_roundg (gk - 1)
         ·exact ⟨t + 1, by omega, by have := TG.out; omega, by simp, by rw [← tk6_succ]; exact P14.out, K14.out⟩
         case measure => have := TG.out; omega
       ·obtain rfl : 144 = t := by omega
        have PE := Lib.hid (show Has u12 b (encU (decM f)) from by rw [← tk6_end m f]; exact P12.out)
        go_wp2
        all_goals first | exact bodyPost_ret (v := .tuple #[]) (by simp [results, Try.results37, go_sem]) rfl ⟨rfl, PE.out, K12.out⟩ | exact bodyPost_end (v := .tuple #[]) (by simp [results, Try.results37, go_sem]) rfl ⟨rfl, PE.out, K12.out⟩
end Go.Proofs.Ytpfbodmadmneiaa
namespace Go.Proofs.Ytpfbodmadmneiaa
open Go.ChangeShapes Go.WideShapes Go.ChangeAt Go.RowKit
set_option linter.unusedVariables false
set_option linter.unusedSimpArgs false
set_option maxRecDepth 100000
theorem dec_size (b : Nat) (a : Option Addr) (n c : Nat) (hn : ¬ n = 31408) (w : World) : Calls Try.prog 19 #[.pointer (some ⟨b, 0, none⟩), .slice a n c] w fun q_ w' => q_ = .returned (.int .i64 6) ∧ w' = w := by
 have ne : ((n : Int) != 31408) = true := by simp; omega
 go_enter Try.func19, Try.ntmps19
 go_wp2
 all_goals exact bodyPost_ret (v := .int .i64 6) (by simp [results, Try.results19, go_sem]) rfl ⟨rfl, rfl⟩
theorem dec_kind (b : Nat) (f : M) (hs : ¬ Sta f) (v : Value) (g : Nat) (w : World) (hR : RowB w v 31408 f g) : Calls Try.prog 19 #[.pointer (some ⟨b, 0, none⟩), v] w fun q_ w' => q_ = .returned (.int .i64 5) ∧ w' = w := by
 have IS := Lib.hid (is_c false f (by simp [hs]) v g w hR)
 obtain ⟨cc, rfl, _, _, _, _⟩ := hR
 go_enter Try.func19, Try.ntmps19
 go_wp2_with (fail)
 with_reducible refine (IS.out).mono ?_
 rintro q_ w' ⟨rfl, rfl⟩
 go_wp2
 all_goals exact bodyPost_ret (v := .int .i64 5) (by simp [results, Try.results19, go_sem]) rfl ⟨rfl, rfl⟩
theorem dec_ok (b : Nat) (m f : M) (hs : Sta f) (hf : ∀ j, j < 31408 → 0 ≤ f j ∧ f j < 256) (v : Value) (g : Nat) (hgb : g ≠ b) (w : World) (hR : RowB w v 31408 f g) (hP : Has w b (encU m)) : Calls Try.prog 19 #[.pointer (some ⟨b, 0, none⟩), v] w fun q_ w' => q_ = .returned (.int .i64 0) ∧ Has w' b (encU (decM f)) ∧ Keeps b w w' := by
 have IS := Lib.hid (is_c true f (by simp [hs]) v g w hR)
 obtain ⟨cc, rfl, hcc, hg, hc, _⟩ := hR
 have TK := Lib.hid (take_c b m g cc hcc f hf hgb w hg hc hP)
 clear hc hP hf hs
 have w_ : World := w
 obtain ⟨u0, hu0⟩ : ∃ u0, u0 = w := ⟨_, rfl⟩
 suffices hall : Calls Try.prog 19 #[.pointer (some ⟨b, 0, none⟩), .slice (some ⟨g, 0, none⟩) 31408 cc] u0 fun q_ w' => q_ = .returned (.int .i64 0) ∧ Has w' b (encU (decM f)) ∧ Keeps b w w' by rwa [hu0] at hall
 rw [← hu0] at IS TK
 have HU := Lib.hid hu0
 clear hu0
 clear hcc
 go_enter Try.func19, Try.ntmps19
 go_wp2_with (fail)
 with_reducible refine (IS.out).mono ?_
 rintro q_ w' ⟨rfl, hw⟩
 have hw' := hw.symm
 clear hw
 subst hw'
 go_wp2_with (fail)
 with_reducible refine (TK.out).mono ?_
 rintro q_ u1 ⟨rfl, hP, hk⟩
 have P1 := Lib.hid hP
 have K1 := Lib.hid (show Keeps b w u1 by rw [← HU.out]; exact hk)
 clear hP hk TK IS
 go_wp2
 all_goals exact bodyPost_ret (v := .int .i64 0) (by simp [results, Try.results19, go_sem]) rfl ⟨rfl, P1.out, K1.out⟩
end Go.Proofs.Ytpfbodmadmneiaa
namespace Go.Proofs.Ytpfbodmadmneiaa
open Go.ChangeShapes Go.WideShapes Go.ChangeAt Go.RowKit
set_option linter.unusedVariables false
set_option linter.unusedSimpArgs false
set_option maxRecDepth 100000
/-- A unit whose numbers fit. -/
structure OkB (m : M) : Prop where
 byte : ∀ o, o < 31407 → o ≠ 8365 → 0 ≤ m o ∧ m o < 256
 fr : 0 ≤ m 8365 ∧ m 8365 < 65536
 act : m 8366 = 0 ∨ m 8366 = 1
theorem Ok.b {m : M} (h : Ok m) : OkB m := ⟨h.byte, h.fr, h.act⟩
theorem an120 (x : Int) (h0 : 0 ≤ x) (h1 : x < 256) : (bits .andNot .u8 x 120 = 0) = (x % 8 = 0 ∧ x < 128) := byte_all (P := fun x => (bits .andNot .u8 x 120 = 0) = (x % 8 = 0 ∧ x < 128)) (by
 have h : ∀ i : Fin 256, (bits .andNot .u8 (i.val : Int) 120 = 0) ↔ ((i.val : Int) % 8 = 0 ∧ (i.val : Int) < 128) := by decide +kernel
 exact fun i => propext (h i)) x h0 h1
theorem enc_sta {m : M} (ok : Ok m) : Sta (encF m) := by
 refine ⟨?_, ?_, ?_, ?_, fun j hj => ?_⟩
 ·rw [encF_lo _ _ (by decide)]; exact ok.line
 ·rw [encF_lo _ _ (by decide)]; exact ok.dot
 ·rw [encF_lo _ _ (by decide), an120 _ (ok.byte 8353 (by decide) (by decide)).1 (ok.byte 8353 (by decide) (by decide)).2]; exact ok.stat
 ·rw [show encF m 8367 = m 8366 from encF_hi m 8366 (by decide)]
  rcases ok.act with h | h <;> omega
 ·rw [show 8368 + j = (8367 + j) + 1 by omega, encF_hi _ _ (by omega)]
  have := ok.shade (8367 + j) (by omega) (by omega); omega
theorem enc_bd {m : M} (ok : OkB m) (j : Nat) (hj : j < 31408) : 0 ≤ encF m j ∧ encF m j < 256 := by
 have fr := ok.fr
 by_cases h : j < 8365
 ·rw [encF_lo _ _ h]; exact ok.byte j (by omega) (by omega)
 ·by_cases h1 : j = 8365
  ·subst h1; rw [encF_1]; omega
  ·by_cases h2 : j = 8366
   ·subst h2; rw [encF_2]; omega
   ·obtain ⟨i, rfl⟩ : ∃ i, j = i + 1 := ⟨j - 1, by omega⟩
    rw [encF_hi _ _ (by omega)]; exact ok.byte i (by omega) (by omega)
theorem dec_enc {m : M} (ok : Ok m) (o : Nat) (ho : o < 31407) : decM (encF m) o = m o := by
 unfold decM
 by_cases h : o < 8365
 ·rw [if_pos h, encF_lo _ _ h]
 ·rw [if_neg h]
  by_cases h1 : o = 8365
  ·subst h1
   rw [if_pos rfl, encF_1, encF_2]
   have := ok.fr
   omega
  ·rw [if_neg h1]
   by_cases h2 : o = 8366
   ·subst h2
    rw [if_pos rfl, show encF m 8367 = m 8366 from encF_hi m 8366 (by decide)]
    rcases ok.act with h | h <;> rw [h] <;> rfl
   ·rw [if_neg h2, encF_hi _ _ (by omega)]
end Go.Proofs.Ytpfbodmadmneiaa
