/-
 A row of the picture; a call is loaded out of a slice: for every unit as it can be; no other condition but that each number fits.
-/
import Derived.Test.YtpfbodmadmneiaaTz
import Derived.Test.YtpfbodmadmneiaaEo
import Derived.Deep.Cut
import Derived.BigQuiet
import Derived.WalkSmall
import Derived.Deep.LoopGhost
import Derived.Laws.MakeOwn
import Derived.Deep.DeepCutAuto
import Derived.Deep.CutBlock
import Derived.Laws.StructEq
import Derived.Test.YtpfbodmadmneiaaFw
import Derived.Test.YtpfbodmadmneiaaAw
namespace Go.Proofs.Ytpfbodmadmneiaa
open Go.ChangeShapes Go.WideShapes Go.ChangeAt Go.RowKit
set_option linter.unusedVariables false
set_option linter.unusedSimpArgs false
set_option maxRecDepth 100000
def cntR (t : Nat) : Nat := if t ≤ 6 then t else t - 1
theorem one_at (x : Int) (f : M) (n : Nat) (h : x = f (n + 0)) : ∀ j, j < 1 → (#[.int .u8 x] : Array Value)[j]? = some (.int .u8 (f (n + j))) := fun j hj => by
 match j, hj with
 | 0, _ => exact congrArg (fun q => some (Value.int .u8 q)) h
theorem own_nil (w : World) (base : Nat) (f : M) : OwnB w base (.slice none 0 0) 0 f := ⟨by rw [bl_len], Or.inl ⟨rfl, rfl⟩⟩
theorem rp_cnt (n : Nat) (h : n < 12) (h4 : n ≠ 4) (h6 : n ≠ 6) : rp (2 + n) = 8352 + cntR n := by
 unfold rp cntR
 by_cases a : n < 4
 ·rw [if_pos (by omega), if_pos (by omega)]; omega
 ·rw [if_neg (by omega)]
  by_cases b : n = 5
  ·subst b; rfl
  ·rw [if_neg (by omega), if_pos (by omega), if_neg (by omega)]; omega
set_option maxHeartbeats 16000000 in
theorem renc_c (r v s : Nat) (m : M) (ok : Ok m) (w : World) (h : RU w r v s m) : Calls Try.prog 18 #[.pointer (some ⟨r, 0, none⟩)] w (EncE (encF m) w.heap.size w) := by
 suffices hall : ∀ (n_ : Nat) (W0 : World), n_ ≤ W0.heap.size → Below n_ W0 w → RU W0 r v s m → r < n_ → v < n_ → s < n_ → Calls Try.prog 18 #[.pointer (some ⟨r, 0, none⟩)] w (EncE (encF m) n_ W0) from hall _ _ (Nat.le_refl _) (Below.refl _ _) h h.R.1 h.V.1 h.S.1
 clear h
 intro n_ W0 hn hB hP q1 q2 q3
 have HN := Lib.hid hn
 have B0 := Lib.hid hB
 have PW := Lib.hid hP
 have Q1 := Lib.hid q1
 have Q2 := Lib.hid q2
 have Q3 := Lib.hid q3
 clear hn hB hP q1 q2 q3
 obtain ⟨u0, hu0⟩ : ∃ u0, u0 = w := ⟨_, rfl⟩
 rw [← hu0] at B0 ⊢
 clear hu0
 obtain ⟨f, hf⟩ : ∃ f, f = encF m := ⟨_, rfl⟩
 have FL := Lib.hid (show ∀ i, i < 8365 → f i = m i from fun i hi => by rw [hf]; exact encF_lo m i hi)
 have FH := Lib.hid (show ∀ i, 8366 ≤ i → f (i + 1) = m i from fun i hi => by rw [hf]; exact encF_hi m i hi)
 have FA := Lib.hid (show f 8365 = m 8365 % 256 by rw [hf]; rfl)
 have FB := Lib.hid (show f 8366 = m 8365 / 256 by rw [hf]; rfl)
 rw [← hf]
 clear hf
 obtain ⟨d, hd⟩ : ∃ x, m 8363 = x := ⟨_, rfl⟩
 have bd := ok.byte 8363 (by decide) (by decide)
 rw [hd] at bd
 have Hd := Lib.hid hd
 clear hd
 obtain ⟨ow, how⟩ : ∃ x, m 8364 = x := ⟨_, rfl⟩
 have bow := ok.byte 8364 (by decide) (by decide)
 rw [how] at bow
 have How := Lib.hid how
 clear how
 obtain ⟨fr, hfr⟩ : ∃ x, m 8365 = x := ⟨_, rfl⟩
 have bfr := ok.fr
 rw [hfr] at bfr
 have Hfr := Lib.hid hfr
 clear hfr
 obtain ⟨ac, hac⟩ : ∃ x, decide (m 8366 ≠ 0) = x := ⟨_, rfl⟩
 have Hac := Lib.hid hac
 have Tac := Lib.hid (show tf ac = m 8366 by rw [← hac]; rcases ok.act with q | q <;> rw [q] <;> rfl)
 clear hac
 obtain ⟨L, hL⟩ : ∃ x, m 8356 = x := ⟨_, rfl⟩
 have bL := ok.byte 8356 (by decide) (by decide)
 rw [hL] at bL
 have HL := Lib.hid hL
 clear hL
 have OK := Lib.hid ok
 clear ok
 go_enter Try.func18, Try.ntmps18
 have R0 := Lib.hid (own_nil u0 n_ f)
 obtain ⟨hc, hf⟩ := (PW.out.at Q1.out Q2.out Q3.out HN.out B0.out).R.out
 have e_V := encR_V v s m
 have e_S := encR_S v s m
 go_upto_region 2 with (fail)
 clear hc hf
 obtain ⟨hc, hf⟩ := (PW.out.at Q1.out Q2.out Q3.out HN.out B0.out).R.out
 obtain ⟨v1, u1, hr, ho, hb⟩ := app_bs v 0 8192 8192 R0.out (fun j hj => by
   rw [Nat.zero_add, (PW.out.at Q1.out Q2.out Q3.out HN.out B0.out).V.2.1, encV_get _ _ (by omega), FL.out _ (by omega)]
   try rw [Nat.zero_add]) (Nat.le_trans HN.out B0.out.size) (by omega)
 have RUN := Lib.hid hr
 clear hr
 go_wp2_with (fail)
 refine wp_append_run _ _ _ (.slice none 0 0) (.slice (some ⟨v, 0, none⟩) 8192 8192) _ rfl rfl rfl RUN.out ?_
 have R1 := Lib.hid (show OwnB u1 n_ v1 (8192) f from ho)
 have B1 := Lib.hid (B0.out.trans hb)
 clear ho hb RUN R0 B0
 try simp only [Act.put, qqA, qqB, qqC]
 clear hc hf
 obtain ⟨hc, hf⟩ := (PW.out.at Q1.out Q2.out Q3.out HN.out B1.out).R.out
 obtain ⟨g_1, c_1, eV⟩ := OwnB.slice2 R1.out (by omega)
 subst eV
 obtain ⟨v2, u2, hr, ho, hb⟩ := app_bs s 0 160 160 R1.out (fun j hj => by
   rw [Nat.zero_add, (PW.out.at Q1.out Q2.out Q3.out HN.out B1.out).S.2.1, encS_get _ _ (by omega), FL.out _ (by omega)]
   try rw [Nat.zero_add]) (Nat.le_trans HN.out B1.out.size) (by omega)
 have RUN := Lib.hid hr
 clear hr
 go_wp2_with (fail)
 refine wp_append_run _ _ _ (.slice (some ⟨g_1, 0, none⟩) 8192 c_1) (.slice (some ⟨s, 0, none⟩) 160 160) _ rfl rfl rfl RUN.out ?_
 have R2 := Lib.hid (show OwnB u2 n_ v2 (8352) f from ho)
 have B2 := Lib.hid (B1.out.trans hb)
 clear ho hb RUN R1 B1
 try simp only [Act.put, qqA, qqB, qqC]
 clear hc hf e_V e_S
 go_wp2
 go_loopg [3, 4] 12 (fun g' vv i wr => ∃ (t : Nat) (V : Value), t ≤ 12 ∧ g' + t = 12 ∧ vv = V ∧ i = .int .i64 t ∧ Below n_ W0 wr ∧ OwnB wr n_ V (8352 + cntR t) f)
 case atStart => exact ⟨0, _, by omega, by omega, rfl, rfl, B2.out, R2.out⟩
 case round =>
  obtain ⟨u20, hu⟩ : ∃ q_, q_ = wr := ⟨_, rfl⟩
  subst hu
  obtain ⟨t, VV_, ht, hg, rfl, rfl, hB, hR⟩ := hrel
  have TG := Lib.hid hg
  have B20 := Lib.hid hB
  have R20 := Lib.hid hR
  clear hg hB hR B2 R2
  have cb : cntR t ≤ 12 := by unfold cntR; split <;> omega
  by_cases hlt : t < 12
  ·have l1 : (t : Int) < 12 := by omega
   by_cases t4 : t = 4
   ·have q4 : ((t : Int) == 4) = true := by simp; omega
    have w8 : IntKind.u8.wrap L = L := by rw [IntKind.wrap_u8]; omega
    obtain ⟨hc, hf⟩ := (PW.out.at Q1.out Q2.out Q3.out HN.out B20.out).R.out
    have e_L := rc_i v s m 14 L (by decide) (by decide) HL.out
    obtain ⟨x, hx⟩ : ∃ y, y = L := ⟨_, rfl⟩
    have HXX := Lib.hid (show x = f (8352 + cntR t + 0) by rw [hx, t4, ← HL.out]; exact (FL.out 8356 (by decide)).symm)
    subst hx
    have T4 := Lib.hid t4
    clear t4
    obtain ⟨g_20, c_20, eV⟩ := OwnB.slice2 R20.out (by omega)
    subst eV
    obtain ⟨v21, u21, hr, ho, hb⟩ := app_new (w := u20) #[.int .u8 x] 1 R20.out (one_at x f (8352 + cntR t) HXX.out) (Nat.le_trans HN.out B20.out.size) (by omega)
    have RUN := Lib.hid hr
    clear hr
    go_wp2_with (at_builtin; refine wpList_append_run rfl _ _ _ (.slice (some ⟨g_20, 0, none⟩) (8352 + cntR t) c_20) (.slice (some ⟨u20.heap.size, 0, none⟩) 1 1) _ rfl rfl rfl RUN.out ?_)
    have R21 := Lib.hid (show OwnB u21 n_ v21 (8352 + cntR t + 1) f from ho)
    have B21 := Lib.hid (B20.out.trans hb)
    clear ho hb RUN R20 B20
    try simp only [Act.put, qqA, qqB, qqC]
    clear hc hf e_L
    go_wp2
    have t4 := T4.out
    go_roundg (gk - 1)
    ·exact ⟨t + 1, _, by omega, by have := TG.out; omega, rfl, by simp, B21.out, by have := R21.out; rwa [show 8352 + cntR t + 1 = 8352 + cntR (t + 1) by unfold cntR; split <;> split <;> omega] at this⟩
    case measure => have := TG.out; omega
   ·have q4 : ((t : Int) == 4) = false := by simp; omega
    by_cases t6 : t = 6
    ·have q6 : ((t : Int) != 6) = false := by simp; omega
     have T6 := Lib.hid t6
     clear t6
     go_wp2
     have t6 := T6.out
     go_roundg (gk - 1)
     ·exact ⟨t + 1, _, by omega, by have := TG.out; omega, rfl, by simp, B20.out, by have := R20.out; rwa [show 8352 + cntR t = 8352 + cntR (t + 1) by unfold cntR; split <;> split <;> omega] at this⟩
     case measure => have := TG.out; omega
    ·have q6 : ((t : Int) != 6) = true := by simp; omega
     have er : rp (2 + t) = 8352 + cntR t := by rw [rp_cnt t (by omega) t4 t6]
     obtain ⟨hc, hf⟩ := (PW.out.at Q1.out Q2.out Q3.out HN.out B20.out).R.out
     obtain ⟨x, hx⟩ : ∃ y, y = m (rp (2 + t)) := ⟨_, rfl⟩
     have e_x := rc_u v s m (2 + t) x (by omega) (by omega) (by omega) (by omega) hx.symm
     have HXX := Lib.hid (show x = f (8352 + cntR t + 0) by rw [hx, er, Nat.add_zero]; exact (FL.out _ (by unfold cntR; split <;> omega)).symm)
     clear hx
     obtain ⟨g_20, c_20, eV⟩ := OwnB.slice2 R20.out (by omega)
     subst eV
     obtain ⟨v21, u21, hr, ho, hb⟩ := app_new (w := u20) #[.int .u8 x] 1 R20.out (one_at x f (8352 + cntR t) HXX.out) (Nat.le_trans HN.out B20.out.size) (by omega)
     have RUN := Lib.hid hr
     clear hr
     go_wp2_with (at_builtin; refine wpList_append_run rfl _ _ _ (.slice (some ⟨g_20, 0, none⟩) (8352 + cntR t) c_20) (.slice (some ⟨u20.heap.size, 0, none⟩) 1 1) _ rfl rfl rfl RUN.out ?_)
     have R21 := Lib.hid (show OwnB u21 n_ v21 (8352 + cntR t + 1) f from ho)
     have B21 := Lib.hid (B20.out.trans hb)
     clear ho hb RUN R20 B20
     try simp only [Act.put, qqA, qqB, qqC]
     clear hc hf e_x
     go_wp2
     go_roundg (gk - 1)
     ·exact ⟨t + 1, _, by omega, by have := TG.out; omega, rfl, by simp, B21.out, by have := R21.out; rwa [show 8352 + cntR t + 1 = 8352 + cntR (t + 1) by unfold cntR; split <;> split <;> omega] at this⟩
     case measure => have := TG.out; omega
  ·obtain rfl : 12 = t := by omega
   have R22 := Lib.hid (show OwnB u20 n_ _ 8363 f from R20.out)
   have B22 := B20
   clear R20 B20 cb ht hlt TG
   obtain ⟨u22, hu⟩ : ∃ q_, q_ = u20 := ⟨_, rfl⟩
   rw [← hu] at R22 B22 ⊢
   clear hu
   have A5 := Lib.hid (show ∀ j, j < 5 → (#[.int .u8 d, .int .u8 ow, .int .u8 (fr % 256), .int .u8 (fr / 256), .int .u8 (tf ac)] : Array Value)[j]? = some (.int .u8 (f (8363 + j))) from fun j hj => by
    match j, hj with
    | 0, _ => exact congrArg (fun x => some (Value.int .u8 x)) ((FL.out 8363 (by decide)).trans Hd.out).symm
    | 1, _ => exact congrArg (fun x => some (Value.int .u8 x)) ((FL.out 8364 (by decide)).trans How.out).symm
    | 2, _ => exact congrArg (fun x => some (Value.int .u8 x)) (FA.out.trans (by rw [Hfr.out])).symm
    | 3, _ => exact congrArg (fun x => some (Value.int .u8 x)) (FB.out.trans (by rw [Hfr.out])).symm
    | 4, _ => exact congrArg (fun x => some (Value.int .u8 x)) (Tac.out.trans (FH.out 8366 (by decide)).symm))
   have w1 : fr.tmod 256 = fr % 256 := Int.tmod_eq_emod_of_nonneg bfr.1
   have w2 : IntKind.u8.wrap (fr % 256) = fr % 256 := by rw [IntKind.wrap_u8]; omega
   have w3 : fr.tdiv 256 = fr / 256 := Int.tdiv_eq_ediv_of_nonneg bfr.1
   have w4 : IntKind.u8.wrap (fr / 256) = fr / 256 := by rw [IntKind.wrap_u8]; omega
   have w5 : IntKind.u8.wrap d = d := by rw [IntKind.wrap_u8]; omega
   have w6 : IntKind.u8.wrap ow = ow := by rw [IntKind.wrap_u8]; omega
   have w7 : IntKind.i64.wrap (fr % 256) = fr % 256 := by rw [IntKind.wrap_i64]; omega
   have w8 : IntKind.i64.wrap (fr / 256) = fr / 256 := by rw [IntKind.wrap_i64]; omega
   obtain ⟨hc, hf⟩ := (PW.out.at Q1.out Q2.out Q3.out HN.out B22.out).R.out
   have e_ac := rc_b v s m ac Hac.out
   cases ac
   ·skip
    replace A5 := Lib.hid (show ∀ j, j < 5 → (#[.int .u8 d, .int .u8 ow, .int .u8 (fr % 256), .int .u8 (fr / 256), .int .u8 0] : Array Value)[j]? = some (.int .u8 (f (8363 + j))) from A5.out)
    go_upto_region 14 with (fail)
    clear hc hf e_ac
    have B23 := Lib.hid B22.out.drew
    have R23 := Lib.hid (OwnB.below R22.out (Below.refl _ _).drew)
    clear B22 R22
    obtain ⟨g_, c_, eV⟩ := OwnB.slice2 R23.out (by omega)
    subst eV
    have e_d := rc_i v s (m) 15 d (by decide) (by decide) (Hd.out)
    have e_ow := rc_i v s (m) 16 ow (by decide) (by decide) (How.out)
    have e_fr := rc_i v s (m) 17 fr (by decide) (by decide) (Hfr.out)
    refine wp_region_held_drew (S := (fun w' => ∀ o, w'.cell? ⟨r, o, none⟩ = (encR v s m)[o]?)) (by kernel_rfl) (PW.out.at Q1.out Q2.out Q3.out HN.out B23.out).R.2.1 (fun hHeld => ?_)
    generalize World.drew _ = u23 at hHeld B23 R23 ⊢
    refine tzz 0 ?_
    refine tzz 1 ?_
    refine tzz 2 ?_
    refine tzz 3 ?_
    refine tzz 4 ?_
    refine tzz 5 ?_
    refine tzz 6 ?_
    refine tzz 7 ?_
    refine tzz 8 ?_
    refine tzz 9 ?_
    refine tzz 10 ?_
    refine tzz 11 ?_
    refine tzz 12 ?_
    refine tzz 13 ?_
    refine tzz 14 ?_
    refine tzz 15 ?_
    refine tzz 16 ?_
    refine tzz 17 ?_
    refine tzz 18 ?_
    refine tzz 19 ?_
    refine tzz 20 ?_
    refine tzz 21 ?_
    refine tzz 22 ?_
    refine tzz 23 ?_
    refine wpAnyH_ready (rs := [24]) (by kernel_rfl) (by simp) ?_
    refine (acc rfl (fun K hK => ?_) AllReadyH.nil)
    ·skip
     obtain ⟨v9, u9, hr, ho, hb⟩ := app_new #[.int .u8 d, .int .u8 ow, .int .u8 (fr % 256), .int .u8 (fr / 256), .int .u8 0] 5 R23.out A5.out (Nat.le_trans HN.out B23.out.size) (by omega)
     have RUN := Lib.hid hr
     clear hr
     go_simp
     have B24 := Lib.hid (vian HN.out B23.out (own1 _ (.cells #[.int .u8 d, .int .u8 ow, .int .u8 (fr % 256), .int .u8 (fr / 256), .int .u8 0] 5)))
     have B9 := Lib.hid (B23.out.trans hb)
     have R9 := Lib.hid (show OwnB u9 n_ v9 8368 f from ho)
     clear ho hb B23 R23
     refine hK.out _ _ ?s53 (fun hNew => ?r53)
     case s53 => exact (PW.out.at Q1.out Q2.out Q3.out HN.out B24.out).R.2.1
     clear hK K hHeld
     have hHeld := hNew
     clear hNew
     refine wpAnyH_ready (rs := [25]) (by kernel_rfl) (by simp) ?_
     refine (acc rfl (fun K hK => ?_) AllReadyH.nil)
     ·skip
      refine wp_append_run _ _ _ (.slice (some ⟨g_, 0, none⟩) 8363 c_) (.slice (some ⟨u23.heap.size, 0, none⟩) 5 5) _ rfl rfl rfl RUN.out ?_
      try simp only [Act.put, qqA, qqB, qqC]
      refine hK.out _ _ ?s54 (fun hNew => ?r54)
      case s54 => exact (PW.out.at Q1.out Q2.out Q3.out HN.out B9.out).R.2.1
      clear hK K hHeld
      have hHeld := hNew
      clear hNew
      refine tzz 26 ?_
      refine wpAnyH_done (by kernel_rfl) ?_ _
      clear hHeld RUN e_d e_ow e_fr w1 w2 w3 w4 w5 w6 w7 w8 A5
      go_wp2
      go_loopg [3, 74] 144 (fun g' vv i wr => ∃ (t : Nat) (V : Value), t ≤ 144 ∧ g' + t = 144 ∧ vv = V ∧ i = .int .i64 t ∧ Below n_ W0 wr ∧ OwnB wr n_ V (8368 + 160 * t) f)
      case atStart => exact ⟨0, _, by omega, by omega, rfl, rfl, B9.out, R9.out⟩
      case round =>
       obtain ⟨u20, hu⟩ : ∃ q_, q_ = wr := ⟨_, rfl⟩
       subst hu
       obtain ⟨t, VV_, ht, hg, rfl, rfl, hB, hR⟩ := hrel
       have TG := Lib.hid hg
       have B20 := Lib.hid hB
       have R20 := Lib.hid hR
       clear hg hB hR B9 R9
       by_cases hlt : t < 144
       ·have l1 : (t : Int) < 144 := by omega
        obtain ⟨g_20, c_20, eV⟩ := OwnB.slice2 R20.out (by omega)
        subst eV
        obtain ⟨v21, u21, hr, ho, hb⟩ := app_bs r (19 + t * 160) 160 160 R20.out (fun j hj => by
          rw [(PW.out.at Q1.out Q2.out Q3.out HN.out B20.out).R.2.1, encR_get _ _ _ _ (by omega) (by omega) (by omega) (by omega), rcell_row _ _ (by omega), show 8368 + 160 * t + j = (8367 + t * 160 + j) + 1 by omega, FH.out _ (by omega), show rp (19 + t * 160 + j) = 8367 + t * 160 + j by unfold rp; rw [if_neg (by omega), if_neg (by omega), if_neg (by omega), if_neg (by omega)]; omega]) (Nat.le_trans HN.out B20.out.size) (by omega)
        have RUN := Lib.hid hr
        clear hr
        go_wp2_with (fail)
        refine wp_append_run _ _ _ (.slice (some ⟨g_20, 0, none⟩) (8368 + 160 * t) c_20) (.slice (some ⟨r, 19 + t * 160, none⟩) 160 160) _ rfl rfl rfl RUN.out ?_
        have R21 := Lib.hid (show OwnB u21 n_ v21 (8368 + 160 * t + 160) f from ho)
        have B21 := Lib.hid (B20.out.trans hb)
        clear ho hb RUN R20 B20
        try simp only [Act.put, qqA, qqB, qqC]
        go_wp2
        go_roundg (gk - 1)
        ·exact ⟨t + 1, _, by omega, by have := TG.out; omega, rfl, by simp, B21.out, by have := R21.out; rwa [show 8368 + 160 * t + 160 = 8368 + 160 * (t + 1) by omega] at this⟩
        case measure => have := TG.out; omega
       ·obtain rfl : 144 = t := by omega
        go_wp2
        go_ret
        exact encE_mk R20.out B20.out
   ·skip
    replace A5 := Lib.hid (show ∀ j, j < 5 → (#[.int .u8 d, .int .u8 ow, .int .u8 (fr % 256), .int .u8 (fr / 256), .int .u8 1] : Array Value)[j]? = some (.int .u8 (f (8363 + j))) from A5.out)
    go_upto_region 14 with (fail)
    clear hc hf e_ac
    have B23 := Lib.hid B22.out.drew
    have R23 := Lib.hid (OwnB.below R22.out (Below.refl _ _).drew)
    clear B22 R22
    obtain ⟨g_, c_, eV⟩ := OwnB.slice2 R23.out (by omega)
    subst eV
    have e_d := rc_i v s (m) 15 d (by decide) (by decide) (Hd.out)
    have e_ow := rc_i v s (m) 16 ow (by decide) (by decide) (How.out)
    have e_fr := rc_i v s (m) 17 fr (by decide) (by decide) (Hfr.out)
    refine wp_region_held_drew (S := (fun w' => ∀ o, w'.cell? ⟨r, o, none⟩ = (encR v s m)[o]?)) (by kernel_rfl) (PW.out.at Q1.out Q2.out Q3.out HN.out B23.out).R.2.1 (fun hHeld => ?_)
    generalize World.drew _ = u23 at hHeld B23 R23 ⊢
    refine tzz 0 ?_
    refine tzz 1 ?_
    refine tzz 2 ?_
    refine tzz 3 ?_
    refine tzz 4 ?_
    refine tzz 5 ?_
    refine tzz 6 ?_
    refine tzz 7 ?_
    refine tzz 8 ?_
    refine tzz 9 ?_
    refine tzz 10 ?_
    refine tzz 11 ?_
    refine tzz 12 ?_
    refine tzz 13 ?_
    refine tzz 14 ?_
    refine tzz 15 ?_
    refine tzz 16 ?_
    refine tzz 17 ?_
    refine tzz 18 ?_
    refine tzz 19 ?_
    refine tzz 20 ?_
    refine tzz 21 ?_
    refine tzz 22 ?_
    refine tzz 23 ?_
    refine wpAnyH_ready (rs := [24]) (by kernel_rfl) (by simp) ?_
    refine (acc rfl (fun K hK => ?_) AllReadyH.nil)
    ·skip
     obtain ⟨v9, u9, hr, ho, hb⟩ := app_new #[.int .u8 d, .int .u8 ow, .int .u8 (fr % 256), .int .u8 (fr / 256), .int .u8 1] 5 R23.out A5.out (Nat.le_trans HN.out B23.out.size) (by omega)
     have RUN := Lib.hid hr
     clear hr
     go_simp
     have B24 := Lib.hid (vian HN.out B23.out (own1 _ (.cells #[.int .u8 d, .int .u8 ow, .int .u8 (fr % 256), .int .u8 (fr / 256), .int .u8 1] 5)))
     have B9 := Lib.hid (B23.out.trans hb)
     have R9 := Lib.hid (show OwnB u9 n_ v9 8368 f from ho)
     clear ho hb B23 R23
     refine hK.out _ _ ?s80 (fun hNew => ?r80)
     case s80 => exact (PW.out.at Q1.out Q2.out Q3.out HN.out B24.out).R.2.1
     clear hK K hHeld
     have hHeld := hNew
     clear hNew
     refine wpAnyH_ready (rs := [25]) (by kernel_rfl) (by simp) ?_
     refine (acc rfl (fun K hK => ?_) AllReadyH.nil)
     ·skip
      refine wp_append_run _ _ _ (.slice (some ⟨g_, 0, none⟩) 8363 c_) (.slice (some ⟨u23.heap.size, 0, none⟩) 5 5) _ rfl rfl rfl RUN.out ?_
      try simp only [Act.put, qqA, qqB, qqC]
      refine hK.out _ _ ?s81 (fun hNew => ?r81)
      case s81 => exact (PW.out.at Q1.out Q2.out Q3.out HN.out B9.out).R.2.1
      clear hK K hHeld
      have hHeld := hNew
      clear hNew
      refine tzz 26 ?_
      refine wpAnyH_done (by kernel_rfl) ?_ _
      clear hHeld RUN e_d e_ow e_fr w1 w2 w3 w4 w5 w6 w7 w8 A5
      go_wp2
      go_loopg [3, 74] 144 (fun g' vv i wr => ∃ (t : Nat) (V : Value), t ≤ 144 ∧ g' + t = 144 ∧ vv = V ∧ i = .int .i64 t ∧ Below n_ W0 wr ∧ OwnB wr n_ V (8368 + 160 * t) f)
      case atStart => exact ⟨0, _, by omega, by omega, rfl, rfl, B9.out, R9.out⟩
      case round =>
       obtain ⟨u20, hu⟩ : ∃ q_, q_ = wr := ⟨_, rfl⟩
       subst hu
       obtain ⟨t, VV_, ht, hg, rfl, rfl, hB, hR⟩ := hrel
       have TG := Lib.hid hg
       have B20 := Lib.hid hB
       have R20 := Lib.hid hR
       clear hg hB hR B9 R9
       by_cases hlt : t < 144
       ·have l1 : (t : Int) < 144 := by omega
        obtain ⟨g_20, c_20, eV⟩ := OwnB.slice2 R20.out (by omega)
        subst eV
        obtain ⟨v21, u21, hr, ho, hb⟩ := app_bs r (19 + t * 160) 160 160 R20.out (fun j hj => by
          rw [(PW.out.at Q1.out Q2.out Q3.out HN.out B20.out).R.2.1, encR_get _ _ _ _ (by omega) (by omega) (by omega) (by omega), rcell_row _ _ (by omega), show 8368 + 160 * t + j = (8367 + t * 160 + j) + 1 by omega, FH.out _ (by omega), show rp (19 + t * 160 + j) = 8367 + t * 160 + j by unfold rp; rw [if_neg (by omega), if_neg (by omega), if_neg (by omega), if_neg (by omega)]; omega]) (Nat.le_trans HN.out B20.out.size) (by omega)
        have RUN := Lib.hid hr
        clear hr
        go_wp2_with (fail)
        refine wp_append_run _ _ _ (.slice (some ⟨g_20, 0, none⟩) (8368 + 160 * t) c_20) (.slice (some ⟨r, 19 + t * 160, none⟩) 160 160) _ rfl rfl rfl RUN.out ?_
        have R21 := Lib.hid (show OwnB u21 n_ v21 (8368 + 160 * t + 160) f from ho)
        have B21 := Lib.hid (B20.out.trans hb)
        clear ho hb RUN R20 B20
        try simp only [Act.put, qqA, qqB, qqC]
        go_wp2
        go_roundg (gk - 1)
        ·exact ⟨t + 1, _, by omega, by have := TG.out; omega, rfl, by simp, B21.out, by have := R21.out; rwa [show 8368 + 160 * t + 160 = 8368 + 160 * (t + 1) by omega] at this⟩
        case measure => have := TG.out; omega
       ·obtain rfl : 144 = t := by omega
        go_wp2
        go_ret
        exact encE_mk R20.out B20.out
end Go.Proofs.Ytpfbodmadmneiaa
namespace Go.Proofs.Ytpfbodmadmneiaa
open Go.ChangeShapes Go.WideShapes Go.ChangeAt Go.RowKit
set_option linter.unusedVariables false
set_option linter.unusedSimpArgs false
set_option maxRecDepth 100000
set_option maxHeartbeats 1000000 in
theorem same_c (n : Nat) (hm : n ≤ 1000000) (v1 v2 : Value) (g1 g2 : Nat) (f1 f2 : M) (he : ∀ j, j < n → f1 j = f2 j) (w : World) (h1 : RowB w v1 n f1 g1) (h2 : RowB w v2 n f2 g2) : Calls Try.prog 16 #[v1, v2] w fun q_ w' => q_ = .returned (.bool true) ∧ Below w.heap.size w w' := by
  obtain ⟨c1, rfl, _, lg1, hc1, _⟩ := h1
  obtain ⟨c2, rfl, _, lg2, hc2, _⟩ := h2
  have H1 := Lib.hid hc1
  have H2 := Lib.hid hc2
  have HE := Lib.hid he
  clear hc1 hc2 he
  go_enter Try.func16, Try.ntmps16
  go_wp2
  go_loopg [13] n (fun g' i wr => ∃ (t : Nat), t ≤ n ∧ g' + t = n ∧ i = .int .i64 t ∧ Below w.heap.size w wr)
  case atStart => exact ⟨0, by omega, by omega, rfl, Below.refl _ _⟩
  case round =>
    obtain ⟨u3, hu⟩ : ∃ q_, q_ = wr := ⟨_, rfl⟩
    subst hu
    obtain ⟨t, ht, hg, rfl, hb⟩ := hrel
    have TG := Lib.hid hg
    have HB := Lib.hid hb
    clear hg hb
    by_cases hlt : t < n
    · have l1 : (t : Int) < n := by omega
      have e1 := (HB.out.cell (p := ⟨g1, t, none⟩) lg1).trans (H1.out t hlt)
      have e2 := (HB.out.cell (p := ⟨g2, t, none⟩) lg2).trans (H2.out t hlt)
      rw [HE.out t hlt] at e1
      generalize f2 t = x at e1 e2
      go_wp2
      go_quiet (fail)
      go_wp2
      go_roundg (gk - 1)
      · exact ⟨t + 1, by omega, by have := TG.out; omega, by simp, below_drewN HB.out _⟩
      case measure => have := TG.out; omega
    · go_wp2
      go_ret
      exact ⟨rfl, HB.out⟩
end Go.Proofs.Ytpfbodmadmneiaa
namespace Go.Proofs.Ytpfbodmadmneiaa
open Go.ChangeShapes Go.WideShapes Go.ChangeAt Go.RowKit
set_option linter.unusedVariables false
set_option linter.unusedSimpArgs false
set_option maxRecDepth 100000
/-- A row of the picture. -/
def rwV (m : M) (line : Int) : M := if 0 ≤ line ∧ line < 144 then fun j => m (8367 + line.toNat * 160 + j) else zeroM
theorem row_in_u {m : M} (k : Nat) (h : 8367 ≤ k) (h2 : k + 160 ≤ 31407) (w : World) (b : Nat) (hP : Has w b (encU m)) : w.rangeAt b k (enc (fun j => m (k + j))).toList := fun j v hv => by
 have hj : j < 160 := by
  obtain ⟨q, _⟩ := List.getElem?_eq_some_iff.1 hv
  rwa [Array.length_toList, enc_size] at q
 rw [Array.getElem?_toList, enc_get _ _ hj] at hv
 rw [hP.2.1, encU_u _ _ (by omega) (by omega) (by omega)]; exact hv
/-- A row of the picture is loaded. -/
theorem load_row {ops : Array Oper} {rest : List Oper} {op : Oper} {a : Act} {w : World} {Q : Exit → Act → World → Prop} {b : Nat} {m : M} (hP : Has w b (encU m))
  (hgd : op.guard = none) (x : Operand) (ho : op.op = .load 34 x) (k : Nat) (hx : a.eval x = .pointer (some ⟨b, k, none⟩)) (h : 8367 ≤ k) (h2 : k + 160 ≤ 31407)
  (hK : wpList Try.prog ops Q rest (a.put op.dst (.agg (enc (fun j => m (k + j))))) w) : wpList Try.prog ops Q (op :: rest) a w := by
 obtain ⟨d, hd, hr⟩ := r34.d
 exact wpList_load_mid hgd 34 x ho b k hx (enc (fun j => m (k + j))).toList d (row_in_u k h h2 w b hP) hd hr (by rw [r34.i]; simp [enc_size]) (by simpa using hK)
theorem zc34 : Try.zeroCells34 = enc zeroM := by
 have h1 := zero34
 have h2 := Try.zeroValue34
 have w : World := default
 have e := (h1 w).symm.trans (h2 w)
 injection e with e1 _
 injection e1 with e1
 exact e1.symm
set_option maxHeartbeats 4000000 in
theorem row_0 (b : Nat) (m : M) (n : Nat) (n1 : n < 144) (w : World) (h : Has w b (encU m)) : Calls Try.prog 15 #[.pointer (some ⟨b, 0, none⟩), .int .i64 (n : Int)] w fun q_ w' => q_ = .returned (.agg (enc (fun j => m (8367 + n * 160 + j)))) ∧ Below w.heap.size w w' := by
 suffices hall : ∀ (n_ : Nat) (W0 : World), n_ ≤ W0.heap.size → Below n_ W0 w → Calls Try.prog 15 #[.pointer (some ⟨b, 0, none⟩), .int .i64 (n : Int)] w fun q_ w' => q_ = .returned (.agg (enc (fun j => m (8367 + n * 160 + j)))) ∧ Below n_ W0 w' from hall _ _ (Nat.le_refl _) (Below.refl _ _)
 intro n_ W0 hn hB
 have HN := Lib.hid hn
 have P0 := Lib.hid h
 clear hn h
 have Q_ := own1 w (.cells Try.zeroCells34 34)
 have B1 := Lib.hid (vian HN.out hB Q_)
 have P1 := Lib.hid (P0.out.below Q_)
 have X1 := Lib.hid (Has.new w Try.zeroCells34 34)
 have LX := Lib.hid (Nat.le_trans HN.out hB.size)
 have NX := Lib.hid (Nat.ne_of_lt P0.out.1)
 clear Q_ hB
 have n2 : (n : Int) < 144 := by omega
 go_enter Try.func15, Try.ntmps15
 go_upto_region 1 with (fail)
 generalize w.alloc (.cells Try.zeroCells34 34) = u1 at B1 P1 X1 ⊢
 generalize w.heap.size = xb at X1 LX NX ⊢
 clear P0
 go_upto_region 3 with (fail)
 go_wp2_with (first | refine load_row P1.out rfl _ rfl _ rfl (by omega) (by omega) ?_ | refine store_g r34 X1.out Try.zeroCells34_size (enc (fun j => m (8367 + n * 160 + j))) (enc_size _) (enc_one _) rfl _ _ rfl rfl rfl ?_)
 try go_wp2_with (refine store_g r34 X1.out Try.zeroCells34_size (enc (fun j => m (8367 + n * 160 + j))) (enc_size _) (enc_one _) rfl _ _ rfl rfl rfl ?_)
 intro u2 hP hk
 have B2 := Lib.hid (hk.below HN.out LX.out B1.out)
 have X2 := Lib.hid hP
 clear hP hk
 try simp only [Act.put]
 go_wp2
 exact bodyPost_ret (v := .agg (enc (fun j => m (8367 + n * 160 + j)))) (results_g r34 Try.results15 _ rfl X2.out (enc_size _)) rfl ⟨rfl, B2.out⟩
set_option maxHeartbeats 4000000 in
theorem row_lo (b : Nat) (m : M)  (w : World) (h : Has w b (encU m)) : Calls Try.prog 15 #[.pointer (some ⟨b, 0, none⟩), .int .i64 (-1)] w fun q_ w' => q_ = .returned (.agg (enc (zeroM))) ∧ Below w.heap.size w w' := by
 suffices hall : ∀ (n_ : Nat) (W0 : World), n_ ≤ W0.heap.size → Below n_ W0 w → Calls Try.prog 15 #[.pointer (some ⟨b, 0, none⟩), .int .i64 (-1)] w fun q_ w' => q_ = .returned (.agg (enc (zeroM))) ∧ Below n_ W0 w' from hall _ _ (Nat.le_refl _) (Below.refl _ _)
 intro n_ W0 hn hB
 have HN := Lib.hid hn
 have P0 := Lib.hid h
 clear hn h
 have Q_ := own1 w (.cells Try.zeroCells34 34)
 have B1 := Lib.hid (vian HN.out hB Q_)
 have P1 := Lib.hid (P0.out.below Q_)
 have X1 := Lib.hid (Has.new w Try.zeroCells34 34)
 have LX := Lib.hid (Nat.le_trans HN.out hB.size)
 have NX := Lib.hid (Nat.ne_of_lt P0.out.1)
 clear Q_ hB
 go_enter Try.func15, Try.ntmps15
 go_upto_region 1 with (fail)
 generalize w.alloc (.cells Try.zeroCells34 34) = u1 at B1 P1 X1 ⊢
 generalize w.heap.size = xb at X1 LX NX ⊢
 clear P0
 go_upto_region 2 with (fail)
 rw [zc34] at X1
 go_wp2_with (refine store_g r34 X1.out (enc_size _) (enc zeroM) (enc_size _) (enc_one _) rfl _ _ rfl rfl (by rw [← zc34]; rfl) ?_)
 intro u2 hP hk
 have B2 := Lib.hid (hk.below HN.out LX.out B1.out)
 have X2 := Lib.hid hP
 clear hP hk
 try simp only [Act.put]
 go_wp2
 exact bodyPost_ret (v := .agg (enc (zeroM))) (results_g r34 Try.results15 _ rfl X2.out (enc_size _)) rfl ⟨rfl, B2.out⟩
set_option maxHeartbeats 4000000 in
theorem row_hi (b : Nat) (m : M) (line : Int) (l0 : 144 ≤ line) (l1 : line < 256) (w : World) (h : Has w b (encU m)) : Calls Try.prog 15 #[.pointer (some ⟨b, 0, none⟩), .int .i64 line] w fun q_ w' => q_ = .returned (.agg (enc (zeroM))) ∧ Below w.heap.size w w' := by
 suffices hall : ∀ (n_ : Nat) (W0 : World), n_ ≤ W0.heap.size → Below n_ W0 w → Calls Try.prog 15 #[.pointer (some ⟨b, 0, none⟩), .int .i64 line] w fun q_ w' => q_ = .returned (.agg (enc (zeroM))) ∧ Below n_ W0 w' from hall _ _ (Nat.le_refl _) (Below.refl _ _)
 intro n_ W0 hn hB
 have HN := Lib.hid hn
 have P0 := Lib.hid h
 clear hn h
 have Q_ := own1 w (.cells Try.zeroCells34 34)
 have B1 := Lib.hid (vian HN.out hB Q_)
 have P1 := Lib.hid (P0.out.below Q_)
 have X1 := Lib.hid (Has.new w Try.zeroCells34 34)
 have LX := Lib.hid (Nat.le_trans HN.out hB.size)
 have NX := Lib.hid (Nat.ne_of_lt P0.out.1)
 clear Q_ hB
 have g0 : ¬ line < 0 := by omega
 go_enter Try.func15, Try.ntmps15
 go_upto_region 1 with (fail)
 generalize w.alloc (.cells Try.zeroCells34 34) = u1 at B1 P1 X1 ⊢
 generalize w.heap.size = xb at X1 LX NX ⊢
 clear P0
 go_upto_region 2 with (fail)
 rw [zc34] at X1
 go_wp2_with (refine store_g r34 X1.out (enc_size _) (enc zeroM) (enc_size _) (enc_one _) rfl _ _ rfl rfl (by rw [← zc34]; rfl) ?_)
 intro u2 hP hk
 have B2 := Lib.hid (hk.below HN.out LX.out B1.out)
 have X2 := Lib.hid hP
 clear hP hk
 try simp only [Act.put]
 go_wp2
 exact bodyPost_ret (v := .agg (enc (zeroM))) (results_g r34 Try.results15 _ rfl X2.out (enc_size _)) rfl ⟨rfl, B2.out⟩
theorem row_c (b : Nat) (m : M) (line : Int) (l0 : 0 ≤ line) (l1 : line < 256) (f : M) (hf : rwV m line = f) (w : World) (h : Has w b (encU m)) : Calls Try.prog 15 #[.pointer (some ⟨b, 0, none⟩), .int .i64 line] w fun q_ w' => q_ = .returned (.agg (enc f)) ∧ Below w.heap.size w w' := by
 subst hf
 unfold rwV
 by_cases g : 0 ≤ line ∧ line < 144
 ·rw [if_pos g]
  obtain ⟨n, rfl⟩ := Int.eq_ofNat_of_zero_le l0
  rw [Int.toNat_natCast]
  exact row_0 b m n (by omega) w h
 ·rw [if_neg g]; exact row_hi b m line (by omega) l1 w h
/-- A call is loaded out of a slice of calls. -/
theorem load_op {ops : Array Oper} {rest : List Oper} {op : Oper} {a : Act} {w : World} {Q : Exit → Act → World → Prop} {b k : Nat} {o : OpV} (hr : w.rangeAt b k o.cells.toList)
  (hgd : op.guard = none) (x : Operand) (ho : op.op = .load 33 x) (hx : a.eval x = .pointer (some ⟨b, k, none⟩))
  (hK : wpList Try.prog ops Q rest (a.put op.dst (.agg o.cells)) w) : wpList Try.prog ops Q (op :: rest) a w := by
 obtain ⟨d, hd, hrow⟩ : ∃ d, Try.prog.underlying 33 = some d ∧ d.isRow = true := ⟨_, Try.underlying33, rfl⟩
 have hi : (Try.prog.info? 33).map (·.size) = some 5 := by kernel_rfl
 exact wpList_load_mid hgd 33 x ho b k hx o.cells.toList d hr hd hrow (by rw [hi]; rfl) (by simpa using hK)
end Go.Proofs.Ytpfbodmadmneiaa
