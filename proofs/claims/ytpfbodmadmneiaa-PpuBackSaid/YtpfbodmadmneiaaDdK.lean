/-
 A call of a law on both units side by side: cycles: for every unit as it can be; no other condition but that each number fits.
-/
import Derived.Test.YtpfbodmadmneiaaTz
import Derived.Test.YtpfbodmadmneiaaDcK
import Derived.Test.YtpfbodmadmneiaaAw
import Derived.Deep.Cut
import Derived.BigQuiet
import Derived.WalkSmall
import Derived.Deep.LoopGhost
import Derived.Deep.DeepCutAuto
import Derived.Deep.CutBlock
namespace Go.Proofs.Ytpfbodmadmneiaa
open Go.ChangeShapes Go.WideShapes Go.ChangeAt Go.RowKit
set_option linter.unusedVariables false
set_option linter.unusedSimpArgs false
set_option maxRecDepth 100000
theorem rmodem_c (r v s : Nat) (m : M) (ok : Ok m) (x : Int) (hx : modeM m = x) (w : World) (h : RU w r v s m) : Calls Try.prog 30 #[.pointer (some ⟨r, 0, none⟩)] w fun q_ w' => q_ = .returned (.int .i64 x) ∧ w' = w := by
 have B := ok.byte
 exact rmode_c r v s m _ rfl (B 8352 (by decide) (by decide)).1 (B 8352 (by decide) (by decide)).2 _ rfl (B 8356 (by decide) (by decide)).1 (B 8356 (by decide) (by decide)).2 _ rfl (B 8363 (by decide) (by decide)).1 (B 8363 (by decide) (by decide)).2 x hx w h
set_option maxHeartbeats 16000000 in
theorem do_1a (c_ : Nat) (A_ : Array Value) (n_ : Nat) (W0 : World) (b r v s : Nat) (NC_ : c_ ≠ b ∧ c_ ≠ r ∧ c_ ≠ v ∧ c_ ≠ s) (AP : Apart b r v s) (lb : n_ ≤ b) (lr : n_ ≤ r) (lv : n_ ≤ v) (ls : n_ ≤ s) (hn : n_ ≤ W0.heap.size) (m : M) (ok : Ok m) (N A X : Int) (bN : -9223372036854775808 ≤ N ∧ N ≤ 9223372036854775807) (bA : 0 ≤ A ∧ A < 65536) (bX : 0 ≤ X ∧ X < 256) (S : Value) (LN : Nat) (F : M) (hS : BsB n_ W0 S LN F) (hLN : LN ≤ 600) (T : Nat) (hT : T ≤ 3000) (h1 : N ≤ 0) (h2 : T = 0) (w : World) (hP : Has w b (encU m)) (hQ : RU w r v s m) (hB : BelC c_ A_ n_ W0 w) : Calls Try.prog 14 #[.pointer (some ⟨b, 0, none⟩), .pointer (some ⟨r, 0, none⟩), .agg #[.int .i64 1, .int .i64 N, .int .u16 A, .int .u8 X, S]] w fun q_ w' => q_ = .returned (.bool true) ∧ Has w' b (encU (itM T m)) ∧ RU w' r v s (itM T m) ∧ BelC c_ A_ n_ W0 w' := by
 have HN := Lib.hid hn
 have NC := Lib.hid NC_
 clear NC_
 have LP := Lib.hid lb
 have LR := Lib.hid lr
 have LV := Lib.hid lv
 have LS := Lib.hid ls
 have NB := Lib.hid AP
 have OK := Lib.hid ok
 have HS := Lib.hid hS
 obtain ⟨u0, hu0⟩ : ∃ u0, u0 = w := ⟨_, rfl⟩
 rw [← hu0] at hP hQ hB ⊢
 have P0 := Lib.hid hP
 have Q0 := Lib.hid hQ
 have B0 := Lib.hid hB
 clear hn lb lr lv ls AP ok hS hP hQ hB hu0
 have q1 : N ≤ 3000 := by omega
 have q2 : ¬ 0 < N := by omega
 have q3 : N ≤ 0 := h1
 subst h2
 clear h1
 go_enter Try.func14, Try.ntmps14
 have hnot : ∀ (x : Bool) (w : World), (Op.unary .not (.bool x)).run Try.prog w = .ok (.bool (!x)) w := fun _ _ => rfl
 have Q_ := own1 u0 (.cells #[.int .i64 1, .int .i64 N, .int .u16 A, .int .u8 X, S] 33)
 have B1 := Lib.hid (vianC HN.out B0.out Q_)
 have P1 := Lib.hid (P0.out.below Q_)
 have Q1 := Lib.hid (Q0.out.below Q_)
 have O1 := Lib.hid (Has.new u0 #[.int .i64 1, .int .i64 N, .int .u16 A, .int .u8 X, S] 33)
 have LO := Lib.hid (Nat.le_trans HN.out B0.out.size)
 have NOb := Lib.hid (Nat.ne_of_lt P0.out.1)
 have NOr := Lib.hid (Nat.ne_of_lt Q0.out.R.1)
 have NOv := Lib.hid (Nat.ne_of_lt Q0.out.V.1)
 have NOs := Lib.hid (Nat.ne_of_lt Q0.out.S.1)
 clear Q_
 go_upto_region 1 with (fail)
 generalize u0.alloc (.cells #[.int .i64 1, .int .i64 N, .int .u16 A, .int .u8 X, S] 33) = u1 at B1 P1 Q1 O1 ⊢
 generalize u0.heap.size = ob at O1 LO NOb NOr NOv NOs ⊢
 clear B0 P0 Q0
 obtain ⟨hcO, hfO⟩ := O1.out.out
 go_wp2
 clear hcO hfO
 go_loopg [16] 0 (fun g' i wr => ∃ (t : Nat), t ≤ 0 ∧ g' + t = 0 ∧ i = .int .i64 t ∧ BelC c_ A_ n_ W0 wr ∧ Has wr b (encU (itM t m)) ∧ RU wr r v s (itM t m) ∧ Has wr ob #[.int .i64 1, .int .i64 N, .int .u16 A, .int .u8 X, S])
 case atStart => exact ⟨0, by omega, by omega, by first | rfl | simp, B1.out, by have := P1.out; rwa [it_zero], by have := Q1.out; rwa [it_zero], O1.out⟩
 case round =>
  obtain ⟨t, ht, hg, rfl, hB, hP, hQ, hO⟩ := hrel
  have TG := Lib.hid hg
  clear hg
  have B2 := Lib.hid hB
  clear hB
  have P2 := Lib.hid hP
  clear hP
  have Q2 := Lib.hid hQ
  clear hQ
  have O2 := Lib.hid hO
  clear hO
  clear B1 P1 Q1 O1
  obtain ⟨u2, hu⟩ : ∃ q_, q_ = wr := ⟨_, rfl⟩
  subst hu
  by_cases hlt : t < 0
  ·have l1 : (t : Int) < 0 := by omega
   obtain ⟨rr, hrr⟩ : ∃ x, x = tickR (itM t m) := ⟨_, rfl⟩
   obtain ⟨y, hy⟩ : ∃ y, y = modeM (itM (t + 1) m) := ⟨_, rfl⟩
   have OT := Lib.hid (it_ok OK.out t)
   have OU := Lib.hid (it_ok OK.out (t + 1))
   have T1 := Lib.hid (show ∀ W, Has W b (encU (itM t m)) → Calls Try.prog 22 #[.pointer (some ⟨b, 0, none⟩)] W fun q_ w' => q_ = .returned (.int .u8 rr) ∧ Has w' b (encU (itM (t + 1) m)) ∧ Keeps b W w' from fun W hW => by rw [hrr, it_succ]; exact tick_c b _ OT.out W hW)
   have T2 := Lib.hid (show ∀ W, RU W r v s (itM t m) → Calls Try.prog 29 #[.pointer (some ⟨r, 0, none⟩)] W fun q_ w' => q_ = .returned (.int .u8 rr) ∧ RU w' r v s (itM (t + 1) m) ∧ Keep3 r v s W w' from fun W hW => by rw [hrr, it_succ]; exact rtick_c r v s _ OT.out W hW)
   have HY := Lib.hid hy.symm
   clear hy hrr
   go_wp2_with (fail)
   with_reducible refine (T1.out _ P2.out).mono ?_
   rintro q_ u3 ⟨rfl, hP, hk⟩
   have P3 := Lib.hid hP
   have B3 := Lib.hid (hk.belowC HN.out LP.out NC.out.1 B2.out)
   have Q3 := Lib.hid (Q2.out.other hk NB.out.r NB.out.v NB.out.s)
   have O3 := Lib.hid (hk.has (Ne.symm NOb.out) O2.out)
   clear hP hk B2 P2 Q2 O2
   go_wp2_with (fail)
   with_reducible refine (T2.out _ Q3.out).mono ?_
   rintro q_ u4 ⟨rfl, hP, hk⟩
   have Q4 := Lib.hid hP
   have B4 := Lib.hid (hk.belowC HN.out LR.out LV.out LS.out NC.out B3.out)
   have P4 := Lib.hid (hk.has NB.out.r NB.out.v NB.out.s P3.out)
   have O4 := Lib.hid (hk.has (Ne.symm NOr.out) (Ne.symm NOv.out) (Ne.symm NOs.out) O3.out)
   clear hP hk B3 P3 Q3 O3
   go_wp2_with (fail)
   with_reducible refine (modem_c b _ OU.out y HY.out _ P4.out).mono ?_
   rintro q_ w' ⟨rfl, rfl⟩
   go_wp2_with (fail)
   with_reducible refine (rmodem_c r v s _ OU.out y HY.out _ Q4.out).mono ?_
   rintro q_ w' ⟨rfl, rfl⟩
   go_wp2
   go_roundg (gk - 1)
   ·exact ⟨t + 1, by omega, by have := TG.out; omega, by simp, B4.out, P4.out, Q4.out, O4.out⟩
   case measure => have := TG.out; omega
  ·obtain rfl : 0 = t := by omega
   clear TG
   obtain ⟨hcO, hfO⟩ := O2.out.out
   go_upto_region 22 with (fail)
   obtain ⟨L_, hL_⟩ : ∃ x, x = (itM 0 m) 8356 := ⟨_, rfl⟩
   obtain ⟨D_, hD_⟩ : ∃ x, x = (itM 0 m) 8363 := ⟨_, rfl⟩
   obtain ⟨F_, hF_⟩ : ∃ x, x = (itM 0 m) 8365 := ⟨_, rfl⟩
   have bL := (it_ok OK.out 0).byte 8356 (by decide) (by decide)
   have bD := (it_ok OK.out 0).byte 8363 (by decide) (by decide)
   have bF := (it_ok OK.out 0).fr
   rw [← hL_] at bL
   rw [← hD_] at bD
   rw [← hF_] at bF
   have HL_ := Lib.hid hL_.symm
   have HD_ := Lib.hid hD_.symm
   have HF_ := Lib.hid hF_.symm
   clear hL_ hD_ hF_
   obtain ⟨ra, hra⟩ : ∃ x, x = readM (itM 0 m) A := ⟨_, rfl⟩
   obtain ⟨pa, hpa⟩ : ∃ x, x = peekM (itM 0 m) A := ⟨_, rfl⟩
   obtain ⟨rs, hrs⟩ : ∃ x, x = readM (itM 0 m) 65345 := ⟨_, rfl⟩
   have C1 := Lib.hid (show ∀ W, Has W b (encU (itM 0 m)) → Calls Try.prog 26 #[.pointer (some ⟨b, 0, none⟩), .int .u16 A] W fun q_ w' => q_ = .returned (.int .u8 ra) ∧ Below W.heap.size W w' from fun W hW => by
    rw [hra]
    exact read_c b _ (it_ok OK.out 0) A bA.1 bA.2 W hW)
   have C2 := Lib.hid (show ∀ W, RU W r v s (itM 0 m) → Calls Try.prog 32 #[.pointer (some ⟨r, 0, none⟩), .int .u16 A] W fun q_ w' => q_ = .returned (.int .u8 ra) ∧ Below W.heap.size W w' from fun W hW => by
    rw [hra]
    exact rread_c r v s _ (it_ok OK.out 0) A bA.1 bA.2 W hW)
   have C3 := Lib.hid (show ∀ W, Has W b (encU (itM 0 m)) → Calls Try.prog 27 #[.pointer (some ⟨b, 0, none⟩), .int .u16 A] W fun q_ w' => q_ = .returned (.int .u8 pa) ∧ Below W.heap.size W w' from fun W hW => by
    rw [hpa]
    exact peek_c b _ (it_ok OK.out 0) A bA.1 bA.2 W hW)
   have C4 := Lib.hid (show ∀ W, RU W r v s (itM 0 m) → Calls Try.prog 33 #[.pointer (some ⟨r, 0, none⟩), .int .u16 A] W fun q_ w' => q_ = .returned (.int .u8 pa) ∧ Below W.heap.size W w' from fun W hW => by
    rw [hpa]
    exact rpeek_c r v s _ (it_ok OK.out 0) A bA.1 bA.2 W hW)
   have C5 := Lib.hid (show ∀ W, Has W b (encU (itM 0 m)) → Calls Try.prog 26 #[.pointer (some ⟨b, 0, none⟩), .int .u16 65345] W fun q_ w' => q_ = .returned (.int .u8 rs) ∧ Below W.heap.size W w' from fun W hW => by
    rw [hrs]
    exact read_c b _ (it_ok OK.out 0) 65345 (by decide) (by decide) W hW)
   have C6 := Lib.hid (show ∀ W, RU W r v s (itM 0 m) → Calls Try.prog 32 #[.pointer (some ⟨r, 0, none⟩), .int .u16 65345] W fun q_ w' => q_ = .returned (.int .u8 rs) ∧ Below W.heap.size W w' from fun W hW => by
    rw [hrs]
    exact rread_c r v s _ (it_ok OK.out 0) 65345 (by decide) (by decide) W hW)
   clear hra hpa hrs
   have e_L := rc_i v s (itM 0 m) 14 L_ (by decide) (by decide) HL_.out
   have e_d := rc_i v s (itM 0 m) 15 D_ (by decide) (by decide) HD_.out
   have e_fr := rc_i v s (itM 0 m) 17 F_ (by decide) (by decide) HF_.out
   clear hcO hfO
   have B3 := Lib.hid B2.out.drew
   have P3 := Lib.hid P2.out.drew
   have Q3 := Lib.hid Q2.out.drew
   have O3 := Lib.hid O2.out.drew
   clear B2 P2 Q2 O2
   refine wp_region_held_drew (S := (fun w' => (∀ o, w'.cell? ⟨ob, o, none⟩ = (#[.int .i64 1, .int .i64 N, .int .u16 A, .int .u8 X, S] : Array Value)[o]?) ∧ (∀ o, w'.cell? ⟨r, o, none⟩ = (encR v s (itM 0 m))[o]?))) (by kernel_rfl) ⟨O3.out.2.1, Q3.out.R.2.1⟩ (fun hHeld => ?_)
   generalize World.drew _ = u3 at hHeld B3 P3 Q3 O3 ⊢
   refine tzz 0 ?_
   refine tzz 1 ?_
   refine tzz 2 ?_
   refine tzz 4 ?_
   refine tzz 5 ?_
   refine tzz 6 ?_
   refine wpAnyH_ready (rs := [3]) (by kernel_rfl) (by simp) ?_
   refine (acc rfl (fun K hK => ?_) AllReadyH.nil)
   ·skip
    go_simp
    with_reducible refine (C1.out _ P3.out).mono ?_
    rintro q_ u4 ⟨rfl, hb⟩
    have B4 := Lib.hid (vianC HN.out B3.out hb)
    have P4 := Lib.hid (P3.out.below hb)
    have Q4 := Lib.hid (Q3.out.below hb)
    have O4 := Lib.hid (O3.out.below hb)
    clear hb B3 P3 Q3 O3
    refine hK.out _ _ ?s130 (fun hNew => ?r130)
    case s130 => exact ⟨O4.out.2.1, Q4.out.R.2.1⟩
    clear hK K hHeld
    have hHeld := hNew
    clear hNew
    refine wpAnyH_ready (rs := [7]) (by kernel_rfl) (by simp) ?_
    refine (acc rfl (fun K hK => ?_) AllReadyH.nil)
    ·skip
     go_simp
     with_reducible refine (C2.out _ Q4.out).mono ?_
     rintro q_ u5 ⟨rfl, hb⟩
     have B5 := Lib.hid (vianC HN.out B4.out hb)
     have P5 := Lib.hid (P4.out.below hb)
     have Q5 := Lib.hid (Q4.out.below hb)
     have O5 := Lib.hid (O4.out.below hb)
     clear hb B4 P4 Q4 O4
     refine hK.out _ _ ?s131 (fun hNew => ?r131)
     case s131 => exact ⟨O5.out.2.1, Q5.out.R.2.1⟩
     clear hK K hHeld
     have hHeld := hNew
     clear hNew
     refine tzz 8 ?_
     refine tzz 9 ?_
     refine tzz 10 ?_
     refine tzz 11 ?_
     refine tzz 12 ?_
     refine tzz 14 ?_
     refine tzz 15 ?_
     refine tzz 16 ?_
     refine wpAnyH_ready (rs := [13]) (by kernel_rfl) (by simp) ?_
     refine (acc rfl (fun K hK => ?_) AllReadyH.nil)
     ·skip
      go_simp
      with_reducible refine (C3.out _ P5.out).mono ?_
      rintro q_ u6 ⟨rfl, hb⟩
      have B6 := Lib.hid (vianC HN.out B5.out hb)
      have P6 := Lib.hid (P5.out.below hb)
      have Q6 := Lib.hid (Q5.out.below hb)
      have O6 := Lib.hid (O5.out.below hb)
      clear hb B5 P5 Q5 O5
      refine hK.out _ _ ?s140 (fun hNew => ?r140)
      case s140 => exact ⟨O6.out.2.1, Q6.out.R.2.1⟩
      clear hK K hHeld
      have hHeld := hNew
      clear hNew
      refine wpAnyH_ready (rs := [17]) (by kernel_rfl) (by simp) ?_
      refine (acc rfl (fun K hK => ?_) AllReadyH.nil)
      ·skip
       go_simp
       with_reducible refine (C4.out _ Q6.out).mono ?_
       rintro q_ u7 ⟨rfl, hb⟩
       have B7 := Lib.hid (vianC HN.out B6.out hb)
       have P7 := Lib.hid (P6.out.below hb)
       have Q7 := Lib.hid (Q6.out.below hb)
       have O7 := Lib.hid (O6.out.below hb)
       clear hb B6 P6 Q6 O6
       refine hK.out _ _ ?s141 (fun hNew => ?r141)
       case s141 => exact ⟨O7.out.2.1, Q7.out.R.2.1⟩
       clear hK K hHeld
       have hHeld := hNew
       clear hNew
       refine tzz 18 ?_
       refine tzz 19 ?_
       refine tzz 20 ?_
       refine tzz 21 ?_
       refine tzz 23 ?_
       refine wpAnyH_ready (rs := [22]) (by kernel_rfl) (by simp) ?_
       refine (acc rfl (fun K hK => ?_) AllReadyH.nil)
       ·skip
        go_simp
        with_reducible refine (C5.out _ P7.out).mono ?_
        rintro q_ u8 ⟨rfl, hb⟩
        have B8 := Lib.hid (vianC HN.out B7.out hb)
        have P8 := Lib.hid (P7.out.below hb)
        have Q8 := Lib.hid (Q7.out.below hb)
        have O8 := Lib.hid (O7.out.below hb)
        clear hb B7 P7 Q7 O7
        refine hK.out _ _ ?s147 (fun hNew => ?r147)
        case s147 => exact ⟨O8.out.2.1, Q8.out.R.2.1⟩
        clear hK K hHeld
        have hHeld := hNew
        clear hNew
        refine wpAnyH_ready (rs := [24]) (by kernel_rfl) (by simp) ?_
        refine (acc rfl (fun K hK => ?_) AllReadyH.nil)
        ·skip
         go_simp
         with_reducible refine (C6.out _ Q8.out).mono ?_
         rintro q_ u9 ⟨rfl, hb⟩
         have B9 := Lib.hid (vianC HN.out B8.out hb)
         have P9 := Lib.hid (P8.out.below hb)
         have Q9 := Lib.hid (Q8.out.below hb)
         have O9 := Lib.hid (O8.out.below hb)
         clear hb B8 P8 Q8 O8
         refine hK.out _ _ ?s148 (fun hNew => ?r148)
         case s148 => exact ⟨O9.out.2.1, Q9.out.R.2.1⟩
         clear hK K hHeld
         have hHeld := hNew
         clear hNew
         refine tzz 25 ?_
         refine tzz 26 ?_
         refine tzz 27 ?_
         refine tzz 28 ?_
         refine tzz 30 ?_
         refine tzz 31 ?_
         refine tzz 32 ?_
         refine tzz 33 ?_
         refine wpAnyH_ready (rs := [29]) (by kernel_rfl) (by simp) ?_
         refine (acc rfl (fun K hK => ?_) AllReadyH.nil)
         ·skip
          go_simp
          with_reducible refine (line_u b _ L_ HL_.out bL.1 bL.2 _ P9.out).mono ?_
          rintro q_ u10 ⟨rfl, hb⟩
          subst hb
          have B10 := B9
          have P10 := P9
          have Q10 := Q9
          have O10 := O9
          clear B9 P9 Q9 O9
          refine hK.out _ _ ?s157 (fun hNew => ?r157)
          case s157 => exact ⟨O10.out.2.1, Q10.out.R.2.1⟩
          clear hK K hHeld
          have hHeld := hNew
          clear hNew
          refine tzz 34 ?_
          refine tzz 35 ?_
          refine tzz 36 ?_
          refine tzz 37 ?_
          refine tzz 39 ?_
          refine tzz 40 ?_
          refine tzz 41 ?_
          refine tzz 42 ?_
          refine wpAnyH_ready (rs := [38]) (by kernel_rfl) (by simp) ?_
          refine (acc rfl (fun K hK => ?_) AllReadyH.nil)
          ·skip
           go_simp
           with_reducible refine (dot_u b _ D_ HD_.out bD.1 bD.2 _ P10.out).mono ?_
           rintro q_ u11 ⟨rfl, hb⟩
           subst hb
           have B11 := B10
           have P11 := P10
           have Q11 := Q10
           have O11 := O10
           clear B10 P10 Q10 O10
           refine hK.out _ _ ?s166 (fun hNew => ?r166)
           case s166 => exact ⟨O11.out.2.1, Q11.out.R.2.1⟩
           clear hK K hHeld
           have hHeld := hNew
           clear hNew
           refine tzz 43 ?_
           refine tzz 44 ?_
           refine tzz 45 ?_
           refine tzz 46 ?_
           refine tzz 48 ?_
           refine tzz 49 ?_
           refine tzz 50 ?_
           refine tzz 51 ?_
           refine wpAnyH_ready (rs := [47]) (by kernel_rfl) (by simp) ?_
           refine (acc rfl (fun K hK => ?_) AllReadyH.nil)
           ·skip
            go_simp
            with_reducible refine (frames_u b _ F_ HF_.out bF.1 bF.2 _ P11.out).mono ?_
            rintro q_ u12 ⟨rfl, hb⟩
            subst hb
            have B12 := B11
            have P12 := P11
            have Q12 := Q11
            have O12 := O11
            clear B11 P11 Q11 O11
            refine hK.out _ _ ?s175 (fun hNew => ?r175)
            case s175 => exact ⟨O12.out.2.1, Q12.out.R.2.1⟩
            clear hK K hHeld
            have hHeld := hNew
            clear hNew
            refine tzz 52 ?_
            refine tzz 53 ?_
            refine tzz 54 ?_
            refine wpAnyH_done (by kernel_rfl) ?_ _
            clear hHeld
            obtain ⟨hcO, hfO⟩ := O12.out.out
            go_wp2
            all_goals exact bodyPost_ret (v := .bool true) (by simp [results, Try.results14, go_sem]) rfl ⟨rfl, P12.out, Q12.out, B12.out⟩
set_option maxHeartbeats 16000000 in
theorem do_1b (c_ : Nat) (A_ : Array Value) (n_ : Nat) (W0 : World) (b r v s : Nat) (NC_ : c_ ≠ b ∧ c_ ≠ r ∧ c_ ≠ v ∧ c_ ≠ s) (AP : Apart b r v s) (lb : n_ ≤ b) (lr : n_ ≤ r) (lv : n_ ≤ v) (ls : n_ ≤ s) (hn : n_ ≤ W0.heap.size) (m : M) (ok : Ok m) (N A X : Int) (bN : -9223372036854775808 ≤ N ∧ N ≤ 9223372036854775807) (bA : 0 ≤ A ∧ A < 65536) (bX : 0 ≤ X ∧ X < 256) (S : Value) (LN : Nat) (F : M) (hS : BsB n_ W0 S LN F) (hLN : LN ≤ 600) (T : Nat) (hT : T ≤ 3000) (h1 : 0 < T) (h2 : N = (T : Int)) (w : World) (hP : Has w b (encU m)) (hQ : RU w r v s m) (hB : BelC c_ A_ n_ W0 w) : Calls Try.prog 14 #[.pointer (some ⟨b, 0, none⟩), .pointer (some ⟨r, 0, none⟩), .agg #[.int .i64 1, .int .i64 N, .int .u16 A, .int .u8 X, S]] w fun q_ w' => q_ = .returned (.bool true) ∧ Has w' b (encU (itM T m)) ∧ RU w' r v s (itM T m) ∧ BelC c_ A_ n_ W0 w' := by
 have HN := Lib.hid hn
 have NC := Lib.hid NC_
 clear NC_
 have LP := Lib.hid lb
 have LR := Lib.hid lr
 have LV := Lib.hid lv
 have LS := Lib.hid ls
 have NB := Lib.hid AP
 have OK := Lib.hid ok
 have HS := Lib.hid hS
 obtain ⟨u0, hu0⟩ : ∃ u0, u0 = w := ⟨_, rfl⟩
 rw [← hu0] at hP hQ hB ⊢
 have P0 := Lib.hid hP
 have Q0 := Lib.hid hQ
 have B0 := Lib.hid hB
 clear hn lb lr lv ls AP ok hS hP hQ hB hu0
 subst h2
 have q1 : (T : Int) ≤ 3000 := by omega
 have q2 : 0 < (T : Int) := by omega
 have q4 : T ≤ 3000 := hT
 go_enter Try.func14, Try.ntmps14
 have hnot : ∀ (x : Bool) (w : World), (Op.unary .not (.bool x)).run Try.prog w = .ok (.bool (!x)) w := fun _ _ => rfl
 have Q_ := own1 u0 (.cells #[.int .i64 1, .int .i64 (T : Int), .int .u16 A, .int .u8 X, S] 33)
 have B1 := Lib.hid (vianC HN.out B0.out Q_)
 have P1 := Lib.hid (P0.out.below Q_)
 have Q1 := Lib.hid (Q0.out.below Q_)
 have O1 := Lib.hid (Has.new u0 #[.int .i64 1, .int .i64 (T : Int), .int .u16 A, .int .u8 X, S] 33)
 have LO := Lib.hid (Nat.le_trans HN.out B0.out.size)
 have NOb := Lib.hid (Nat.ne_of_lt P0.out.1)
 have NOr := Lib.hid (Nat.ne_of_lt Q0.out.R.1)
 have NOv := Lib.hid (Nat.ne_of_lt Q0.out.V.1)
 have NOs := Lib.hid (Nat.ne_of_lt Q0.out.S.1)
 clear Q_
 go_upto_region 1 with (fail)
 generalize u0.alloc (.cells #[.int .i64 1, .int .i64 (T : Int), .int .u16 A, .int .u8 X, S] 33) = u1 at B1 P1 Q1 O1 ⊢
 generalize u0.heap.size = ob at O1 LO NOb NOr NOv NOs ⊢
 clear B0 P0 Q0
 obtain ⟨hcO, hfO⟩ := O1.out.out
 go_wp2
 clear hcO hfO
 go_loopg [16] T (fun g' i wr => ∃ (t : Nat), t ≤ T ∧ g' + t = T ∧ i = .int .i64 t ∧ BelC c_ A_ n_ W0 wr ∧ Has wr b (encU (itM t m)) ∧ RU wr r v s (itM t m) ∧ Has wr ob #[.int .i64 1, .int .i64 (T : Int), .int .u16 A, .int .u8 X, S])
 case atStart => exact ⟨0, by omega, by omega, by first | rfl | simp, B1.out, by have := P1.out; rwa [it_zero], by have := Q1.out; rwa [it_zero], O1.out⟩
 case round =>
  obtain ⟨t, ht, hg, rfl, hB, hP, hQ, hO⟩ := hrel
  have TG := Lib.hid hg
  clear hg
  have B2 := Lib.hid hB
  clear hB
  have P2 := Lib.hid hP
  clear hP
  have Q2 := Lib.hid hQ
  clear hQ
  have O2 := Lib.hid hO
  clear hO
  clear B1 P1 Q1 O1
  obtain ⟨u2, hu⟩ : ∃ q_, q_ = wr := ⟨_, rfl⟩
  subst hu
  by_cases hlt : t < T
  ·have l1 : (t : Int) < T := by omega
   obtain ⟨rr, hrr⟩ : ∃ x, x = tickR (itM t m) := ⟨_, rfl⟩
   obtain ⟨y, hy⟩ : ∃ y, y = modeM (itM (t + 1) m) := ⟨_, rfl⟩
   have OT := Lib.hid (it_ok OK.out t)
   have OU := Lib.hid (it_ok OK.out (t + 1))
   have T1 := Lib.hid (show ∀ W, Has W b (encU (itM t m)) → Calls Try.prog 22 #[.pointer (some ⟨b, 0, none⟩)] W fun q_ w' => q_ = .returned (.int .u8 rr) ∧ Has w' b (encU (itM (t + 1) m)) ∧ Keeps b W w' from fun W hW => by rw [hrr, it_succ]; exact tick_c b _ OT.out W hW)
   have T2 := Lib.hid (show ∀ W, RU W r v s (itM t m) → Calls Try.prog 29 #[.pointer (some ⟨r, 0, none⟩)] W fun q_ w' => q_ = .returned (.int .u8 rr) ∧ RU w' r v s (itM (t + 1) m) ∧ Keep3 r v s W w' from fun W hW => by rw [hrr, it_succ]; exact rtick_c r v s _ OT.out W hW)
   have HY := Lib.hid hy.symm
   clear hy hrr
   go_wp2_with (fail)
   with_reducible refine (T1.out _ P2.out).mono ?_
   rintro q_ u3 ⟨rfl, hP, hk⟩
   have P3 := Lib.hid hP
   have B3 := Lib.hid (hk.belowC HN.out LP.out NC.out.1 B2.out)
   have Q3 := Lib.hid (Q2.out.other hk NB.out.r NB.out.v NB.out.s)
   have O3 := Lib.hid (hk.has (Ne.symm NOb.out) O2.out)
   clear hP hk B2 P2 Q2 O2
   go_wp2_with (fail)
   with_reducible refine (T2.out _ Q3.out).mono ?_
   rintro q_ u4 ⟨rfl, hP, hk⟩
   have Q4 := Lib.hid hP
   have B4 := Lib.hid (hk.belowC HN.out LR.out LV.out LS.out NC.out B3.out)
   have P4 := Lib.hid (hk.has NB.out.r NB.out.v NB.out.s P3.out)
   have O4 := Lib.hid (hk.has (Ne.symm NOr.out) (Ne.symm NOv.out) (Ne.symm NOs.out) O3.out)
   clear hP hk B3 P3 Q3 O3
   go_wp2_with (fail)
   with_reducible refine (modem_c b _ OU.out y HY.out _ P4.out).mono ?_
   rintro q_ w' ⟨rfl, rfl⟩
   go_wp2_with (fail)
   with_reducible refine (rmodem_c r v s _ OU.out y HY.out _ Q4.out).mono ?_
   rintro q_ w' ⟨rfl, rfl⟩
   go_wp2
   go_roundg (gk - 1)
   ·exact ⟨t + 1, by omega, by have := TG.out; omega, by simp, B4.out, P4.out, Q4.out, O4.out⟩
   case measure => have := TG.out; omega
  ·obtain rfl : T = t := by omega
   clear TG
   obtain ⟨hcO, hfO⟩ := O2.out.out
   go_upto_region 22 with (fail)
   obtain ⟨L_, hL_⟩ : ∃ x, x = (itM T m) 8356 := ⟨_, rfl⟩
   obtain ⟨D_, hD_⟩ : ∃ x, x = (itM T m) 8363 := ⟨_, rfl⟩
   obtain ⟨F_, hF_⟩ : ∃ x, x = (itM T m) 8365 := ⟨_, rfl⟩
   have bL := (it_ok OK.out T).byte 8356 (by decide) (by decide)
   have bD := (it_ok OK.out T).byte 8363 (by decide) (by decide)
   have bF := (it_ok OK.out T).fr
   rw [← hL_] at bL
   rw [← hD_] at bD
   rw [← hF_] at bF
   have HL_ := Lib.hid hL_.symm
   have HD_ := Lib.hid hD_.symm
   have HF_ := Lib.hid hF_.symm
   clear hL_ hD_ hF_
   obtain ⟨ra, hra⟩ : ∃ x, x = readM (itM T m) A := ⟨_, rfl⟩
   obtain ⟨pa, hpa⟩ : ∃ x, x = peekM (itM T m) A := ⟨_, rfl⟩
   obtain ⟨rs, hrs⟩ : ∃ x, x = readM (itM T m) 65345 := ⟨_, rfl⟩
   have C1 := Lib.hid (show ∀ W, Has W b (encU (itM T m)) → Calls Try.prog 26 #[.pointer (some ⟨b, 0, none⟩), .int .u16 A] W fun q_ w' => q_ = .returned (.int .u8 ra) ∧ Below W.heap.size W w' from fun W hW => by
    rw [hra]
    exact read_c b _ (it_ok OK.out T) A bA.1 bA.2 W hW)
   have C2 := Lib.hid (show ∀ W, RU W r v s (itM T m) → Calls Try.prog 32 #[.pointer (some ⟨r, 0, none⟩), .int .u16 A] W fun q_ w' => q_ = .returned (.int .u8 ra) ∧ Below W.heap.size W w' from fun W hW => by
    rw [hra]
    exact rread_c r v s _ (it_ok OK.out T) A bA.1 bA.2 W hW)
   have C3 := Lib.hid (show ∀ W, Has W b (encU (itM T m)) → Calls Try.prog 27 #[.pointer (some ⟨b, 0, none⟩), .int .u16 A] W fun q_ w' => q_ = .returned (.int .u8 pa) ∧ Below W.heap.size W w' from fun W hW => by
    rw [hpa]
    exact peek_c b _ (it_ok OK.out T) A bA.1 bA.2 W hW)
   have C4 := Lib.hid (show ∀ W, RU W r v s (itM T m) → Calls Try.prog 33 #[.pointer (some ⟨r, 0, none⟩), .int .u16 A] W fun q_ w' => q_ = .returned (.int .u8 pa) ∧ Below W.heap.size W w' from fun W hW => by
    rw [hpa]
    exact rpeek_c r v s _ (it_ok OK.out T) A bA.1 bA.2 W hW)
   have C5 := Lib.hid (show ∀ W, Has W b (encU (itM T m)) → Calls Try.prog 26 #[.pointer (some ⟨b, 0, none⟩), .int .u16 65345] W fun q_ w' => q_ = .returned (.int .u8 rs) ∧ Below W.heap.size W w' from fun W hW => by
    rw [hrs]
    exact read_c b _ (it_ok OK.out T) 65345 (by decide) (by decide) W hW)
   have C6 := Lib.hid (show ∀ W, RU W r v s (itM T m) → Calls Try.prog 32 #[.pointer (some ⟨r, 0, none⟩), .int .u16 65345] W fun q_ w' => q_ = .returned (.int .u8 rs) ∧ Below W.heap.size W w' from fun W hW => by
    rw [hrs]
    exact rread_c r v s _ (it_ok OK.out T) 65345 (by decide) (by decide) W hW)
   clear hra hpa hrs
   have e_L := rc_i v s (itM T m) 14 L_ (by decide) (by decide) HL_.out
   have e_d := rc_i v s (itM T m) 15 D_ (by decide) (by decide) HD_.out
   have e_fr := rc_i v s (itM T m) 17 F_ (by decide) (by decide) HF_.out
   clear hcO hfO
   have B3 := Lib.hid B2.out.drew
   have P3 := Lib.hid P2.out.drew
   have Q3 := Lib.hid Q2.out.drew
   have O3 := Lib.hid O2.out.drew
   clear B2 P2 Q2 O2
   refine wp_region_held_drew (S := (fun w' => (∀ o, w'.cell? ⟨ob, o, none⟩ = (#[.int .i64 1, .int .i64 (T : Int), .int .u16 A, .int .u8 X, S] : Array Value)[o]?) ∧ (∀ o, w'.cell? ⟨r, o, none⟩ = (encR v s (itM T m))[o]?))) (by kernel_rfl) ⟨O3.out.2.1, Q3.out.R.2.1⟩ (fun hHeld => ?_)
   generalize World.drew _ = u3 at hHeld B3 P3 Q3 O3 ⊢
   refine tzz 0 ?_
   refine tzz 1 ?_
   refine tzz 2 ?_
   refine tzz 4 ?_
   refine tzz 5 ?_
   refine tzz 6 ?_
   refine wpAnyH_ready (rs := [3]) (by kernel_rfl) (by simp) ?_
   refine (acc rfl (fun K hK => ?_) AllReadyH.nil)
   ·skip
    go_simp
    with_reducible refine (C1.out _ P3.out).mono ?_
    rintro q_ u4 ⟨rfl, hb⟩
    have B4 := Lib.hid (vianC HN.out B3.out hb)
    have P4 := Lib.hid (P3.out.below hb)
    have Q4 := Lib.hid (Q3.out.below hb)
    have O4 := Lib.hid (O3.out.below hb)
    clear hb B3 P3 Q3 O3
    refine hK.out _ _ ?s185 (fun hNew => ?r185)
    case s185 => exact ⟨O4.out.2.1, Q4.out.R.2.1⟩
    clear hK K hHeld
    have hHeld := hNew
    clear hNew
    refine wpAnyH_ready (rs := [7]) (by kernel_rfl) (by simp) ?_
    refine (acc rfl (fun K hK => ?_) AllReadyH.nil)
    ·skip
     go_simp
     with_reducible refine (C2.out _ Q4.out).mono ?_
     rintro q_ u5 ⟨rfl, hb⟩
     have B5 := Lib.hid (vianC HN.out B4.out hb)
     have P5 := Lib.hid (P4.out.below hb)
     have Q5 := Lib.hid (Q4.out.below hb)
     have O5 := Lib.hid (O4.out.below hb)
     clear hb B4 P4 Q4 O4
     refine hK.out _ _ ?s186 (fun hNew => ?r186)
     case s186 => exact ⟨O5.out.2.1, Q5.out.R.2.1⟩
     clear hK K hHeld
     have hHeld := hNew
     clear hNew
     refine tzz 8 ?_
     refine tzz 9 ?_
     refine tzz 10 ?_
     refine tzz 11 ?_
     refine tzz 12 ?_
     refine tzz 14 ?_
     refine tzz 15 ?_
     refine tzz 16 ?_
     refine wpAnyH_ready (rs := [13]) (by kernel_rfl) (by simp) ?_
     refine (acc rfl (fun K hK => ?_) AllReadyH.nil)
     ·skip
      go_simp
      with_reducible refine (C3.out _ P5.out).mono ?_
      rintro q_ u6 ⟨rfl, hb⟩
      have B6 := Lib.hid (vianC HN.out B5.out hb)
      have P6 := Lib.hid (P5.out.below hb)
      have Q6 := Lib.hid (Q5.out.below hb)
      have O6 := Lib.hid (O5.out.below hb)
      clear hb B5 P5 Q5 O5
      refine hK.out _ _ ?s195 (fun hNew => ?r195)
      case s195 => exact ⟨O6.out.2.1, Q6.out.R.2.1⟩
      clear hK K hHeld
      have hHeld := hNew
      clear hNew
      refine wpAnyH_ready (rs := [17]) (by kernel_rfl) (by simp) ?_
      refine (acc rfl (fun K hK => ?_) AllReadyH.nil)
      ·skip
       go_simp
       with_reducible refine (C4.out _ Q6.out).mono ?_
       rintro q_ u7 ⟨rfl, hb⟩
       have B7 := Lib.hid (vianC HN.out B6.out hb)
       have P7 := Lib.hid (P6.out.below hb)
       have Q7 := Lib.hid (Q6.out.below hb)
       have O7 := Lib.hid (O6.out.below hb)
       clear hb B6 P6 Q6 O6
       refine hK.out _ _ ?s196 (fun hNew => ?r196)
       case s196 => exact ⟨O7.out.2.1, Q7.out.R.2.1⟩
       clear hK K hHeld
       have hHeld := hNew
       clear hNew
       refine tzz 18 ?_
       refine tzz 19 ?_
       refine tzz 20 ?_
       refine tzz 21 ?_
       refine tzz 23 ?_
       refine wpAnyH_ready (rs := [22]) (by kernel_rfl) (by simp) ?_
       refine (acc rfl (fun K hK => ?_) AllReadyH.nil)
       ·skip
        go_simp
        with_reducible refine (C5.out _ P7.out).mono ?_
        rintro q_ u8 ⟨rfl, hb⟩
        have B8 := Lib.hid (vianC HN.out B7.out hb)
        have P8 := Lib.hid (P7.out.below hb)
        have Q8 := Lib.hid (Q7.out.below hb)
        have O8 := Lib.hid (O7.out.below hb)
        clear hb B7 P7 Q7 O7
        refine hK.out _ _ ?s202 (fun hNew => ?r202)
        case s202 => exact ⟨O8.out.2.1, Q8.out.R.2.1⟩
        clear hK K hHeld
        have hHeld := hNew
        clear hNew
        refine wpAnyH_ready (rs := [24]) (by kernel_rfl) (by simp) ?_
        refine (acc rfl (fun K hK => ?_) AllReadyH.nil)
        ·skip
         go_simp
         with_reducible refine (C6.out _ Q8.out).mono ?_
         rintro q_ u9 ⟨rfl, hb⟩
         have B9 := Lib.hid (vianC HN.out B8.out hb)
         have P9 := Lib.hid (P8.out.below hb)
         have Q9 := Lib.hid (Q8.out.below hb)
         have O9 := Lib.hid (O8.out.below hb)
         clear hb B8 P8 Q8 O8
         refine hK.out _ _ ?s203 (fun hNew => ?r203)
         case s203 => exact ⟨O9.out.2.1, Q9.out.R.2.1⟩
         clear hK K hHeld
         have hHeld := hNew
         clear hNew
         refine tzz 25 ?_
         refine tzz 26 ?_
         refine tzz 27 ?_
         refine tzz 28 ?_
         refine tzz 30 ?_
         refine tzz 31 ?_
         refine tzz 32 ?_
         refine tzz 33 ?_
         refine wpAnyH_ready (rs := [29]) (by kernel_rfl) (by simp) ?_
         refine (acc rfl (fun K hK => ?_) AllReadyH.nil)
         ·skip
          go_simp
          with_reducible refine (line_u b _ L_ HL_.out bL.1 bL.2 _ P9.out).mono ?_
          rintro q_ u10 ⟨rfl, hb⟩
          subst hb
          have B10 := B9
          have P10 := P9
          have Q10 := Q9
          have O10 := O9
          clear B9 P9 Q9 O9
          refine hK.out _ _ ?s212 (fun hNew => ?r212)
          case s212 => exact ⟨O10.out.2.1, Q10.out.R.2.1⟩
          clear hK K hHeld
          have hHeld := hNew
          clear hNew
          refine tzz 34 ?_
          refine tzz 35 ?_
          refine tzz 36 ?_
          refine tzz 37 ?_
          refine tzz 39 ?_
          refine tzz 40 ?_
          refine tzz 41 ?_
          refine tzz 42 ?_
          refine wpAnyH_ready (rs := [38]) (by kernel_rfl) (by simp) ?_
          refine (acc rfl (fun K hK => ?_) AllReadyH.nil)
          ·skip
           go_simp
           with_reducible refine (dot_u b _ D_ HD_.out bD.1 bD.2 _ P10.out).mono ?_
           rintro q_ u11 ⟨rfl, hb⟩
           subst hb
           have B11 := B10
           have P11 := P10
           have Q11 := Q10
           have O11 := O10
           clear B10 P10 Q10 O10
           refine hK.out _ _ ?s221 (fun hNew => ?r221)
           case s221 => exact ⟨O11.out.2.1, Q11.out.R.2.1⟩
           clear hK K hHeld
           have hHeld := hNew
           clear hNew
           refine tzz 43 ?_
           refine tzz 44 ?_
           refine tzz 45 ?_
           refine tzz 46 ?_
           refine tzz 48 ?_
           refine tzz 49 ?_
           refine tzz 50 ?_
           refine tzz 51 ?_
           refine wpAnyH_ready (rs := [47]) (by kernel_rfl) (by simp) ?_
           refine (acc rfl (fun K hK => ?_) AllReadyH.nil)
           ·skip
            go_simp
            with_reducible refine (frames_u b _ F_ HF_.out bF.1 bF.2 _ P11.out).mono ?_
            rintro q_ u12 ⟨rfl, hb⟩
            subst hb
            have B12 := B11
            have P12 := P11
            have Q12 := Q11
            have O12 := O11
            clear B11 P11 Q11 O11
            refine hK.out _ _ ?s230 (fun hNew => ?r230)
            case s230 => exact ⟨O12.out.2.1, Q12.out.R.2.1⟩
            clear hK K hHeld
            have hHeld := hNew
            clear hNew
            refine tzz 52 ?_
            refine tzz 53 ?_
            refine tzz 54 ?_
            refine wpAnyH_done (by kernel_rfl) ?_ _
            clear hHeld
            obtain ⟨hcO, hfO⟩ := O12.out.out
            go_wp2
            all_goals exact bodyPost_ret (v := .bool true) (by simp [results, Try.results14, go_sem]) rfl ⟨rfl, P12.out, Q12.out, B12.out⟩
set_option maxHeartbeats 16000000 in
theorem do_1c (c_ : Nat) (A_ : Array Value) (n_ : Nat) (W0 : World) (b r v s : Nat) (NC_ : c_ ≠ b ∧ c_ ≠ r ∧ c_ ≠ v ∧ c_ ≠ s) (AP : Apart b r v s) (lb : n_ ≤ b) (lr : n_ ≤ r) (lv : n_ ≤ v) (ls : n_ ≤ s) (hn : n_ ≤ W0.heap.size) (m : M) (ok : Ok m) (N A X : Int) (bN : -9223372036854775808 ≤ N ∧ N ≤ 9223372036854775807) (bA : 0 ≤ A ∧ A < 65536) (bX : 0 ≤ X ∧ X < 256) (S : Value) (LN : Nat) (F : M) (hS : BsB n_ W0 S LN F) (hLN : LN ≤ 600) (T : Nat) (hT : T ≤ 3000) (h1 : 3000 < N) (h2 : T = 3000) (w : World) (hP : Has w b (encU m)) (hQ : RU w r v s m) (hB : BelC c_ A_ n_ W0 w) : Calls Try.prog 14 #[.pointer (some ⟨b, 0, none⟩), .pointer (some ⟨r, 0, none⟩), .agg #[.int .i64 1, .int .i64 N, .int .u16 A, .int .u8 X, S]] w fun q_ w' => q_ = .returned (.bool true) ∧ Has w' b (encU (itM T m)) ∧ RU w' r v s (itM T m) ∧ BelC c_ A_ n_ W0 w' := by
 have HN := Lib.hid hn
 have NC := Lib.hid NC_
 clear NC_
 have LP := Lib.hid lb
 have LR := Lib.hid lr
 have LV := Lib.hid lv
 have LS := Lib.hid ls
 have NB := Lib.hid AP
 have OK := Lib.hid ok
 have HS := Lib.hid hS
 obtain ⟨u0, hu0⟩ : ∃ u0, u0 = w := ⟨_, rfl⟩
 rw [← hu0] at hP hQ hB ⊢
 have P0 := Lib.hid hP
 have Q0 := Lib.hid hQ
 have B0 := Lib.hid hB
 clear hn lb lr lv ls AP ok hS hP hQ hB hu0
 have q1 : ¬ N ≤ 3000 := by omega
 subst h2
 go_enter Try.func14, Try.ntmps14
 have hnot : ∀ (x : Bool) (w : World), (Op.unary .not (.bool x)).run Try.prog w = .ok (.bool (!x)) w := fun _ _ => rfl
 have Q_ := own1 u0 (.cells #[.int .i64 1, .int .i64 N, .int .u16 A, .int .u8 X, S] 33)
 have B1 := Lib.hid (vianC HN.out B0.out Q_)
 have P1 := Lib.hid (P0.out.below Q_)
 have Q1 := Lib.hid (Q0.out.below Q_)
 have O1 := Lib.hid (Has.new u0 #[.int .i64 1, .int .i64 N, .int .u16 A, .int .u8 X, S] 33)
 have LO := Lib.hid (Nat.le_trans HN.out B0.out.size)
 have NOb := Lib.hid (Nat.ne_of_lt P0.out.1)
 have NOr := Lib.hid (Nat.ne_of_lt Q0.out.R.1)
 have NOv := Lib.hid (Nat.ne_of_lt Q0.out.V.1)
 have NOs := Lib.hid (Nat.ne_of_lt Q0.out.S.1)
 clear Q_
 go_upto_region 1 with (fail)
 generalize u0.alloc (.cells #[.int .i64 1, .int .i64 N, .int .u16 A, .int .u8 X, S] 33) = u1 at B1 P1 Q1 O1 ⊢
 generalize u0.heap.size = ob at O1 LO NOb NOr NOv NOs ⊢
 clear B0 P0 Q0
 obtain ⟨hcO, hfO⟩ := O1.out.out
 go_wp2
 clear hcO hfO
 go_loopg [16] 3000 (fun g' i wr => ∃ (t : Nat), t ≤ 3000 ∧ g' + t = 3000 ∧ i = .int .i64 t ∧ BelC c_ A_ n_ W0 wr ∧ Has wr b (encU (itM t m)) ∧ RU wr r v s (itM t m) ∧ Has wr ob #[.int .i64 1, .int .i64 N, .int .u16 A, .int .u8 X, S])
 case atStart => exact ⟨0, by omega, by omega, by first | rfl | simp, B1.out, by have := P1.out; rwa [it_zero], by have := Q1.out; rwa [it_zero], O1.out⟩
 case round =>
  obtain ⟨t, ht, hg, rfl, hB, hP, hQ, hO⟩ := hrel
  have TG := Lib.hid hg
  clear hg
  have B2 := Lib.hid hB
  clear hB
  have P2 := Lib.hid hP
  clear hP
  have Q2 := Lib.hid hQ
  clear hQ
  have O2 := Lib.hid hO
  clear hO
  clear B1 P1 Q1 O1
  obtain ⟨u2, hu⟩ : ∃ q_, q_ = wr := ⟨_, rfl⟩
  subst hu
  by_cases hlt : t < 3000
  ·have l1 : (t : Int) < 3000 := by omega
   obtain ⟨rr, hrr⟩ : ∃ x, x = tickR (itM t m) := ⟨_, rfl⟩
   obtain ⟨y, hy⟩ : ∃ y, y = modeM (itM (t + 1) m) := ⟨_, rfl⟩
   have OT := Lib.hid (it_ok OK.out t)
   have OU := Lib.hid (it_ok OK.out (t + 1))
   have T1 := Lib.hid (show ∀ W, Has W b (encU (itM t m)) → Calls Try.prog 22 #[.pointer (some ⟨b, 0, none⟩)] W fun q_ w' => q_ = .returned (.int .u8 rr) ∧ Has w' b (encU (itM (t + 1) m)) ∧ Keeps b W w' from fun W hW => by rw [hrr, it_succ]; exact tick_c b _ OT.out W hW)
   have T2 := Lib.hid (show ∀ W, RU W r v s (itM t m) → Calls Try.prog 29 #[.pointer (some ⟨r, 0, none⟩)] W fun q_ w' => q_ = .returned (.int .u8 rr) ∧ RU w' r v s (itM (t + 1) m) ∧ Keep3 r v s W w' from fun W hW => by rw [hrr, it_succ]; exact rtick_c r v s _ OT.out W hW)
   have HY := Lib.hid hy.symm
   clear hy hrr
   go_wp2_with (fail)
   with_reducible refine (T1.out _ P2.out).mono ?_
   rintro q_ u3 ⟨rfl, hP, hk⟩
   have P3 := Lib.hid hP
   have B3 := Lib.hid (hk.belowC HN.out LP.out NC.out.1 B2.out)
   have Q3 := Lib.hid (Q2.out.other hk NB.out.r NB.out.v NB.out.s)
   have O3 := Lib.hid (hk.has (Ne.symm NOb.out) O2.out)
   clear hP hk B2 P2 Q2 O2
   go_wp2_with (fail)
   with_reducible refine (T2.out _ Q3.out).mono ?_
   rintro q_ u4 ⟨rfl, hP, hk⟩
   have Q4 := Lib.hid hP
   have B4 := Lib.hid (hk.belowC HN.out LR.out LV.out LS.out NC.out B3.out)
   have P4 := Lib.hid (hk.has NB.out.r NB.out.v NB.out.s P3.out)
   have O4 := Lib.hid (hk.has (Ne.symm NOr.out) (Ne.symm NOv.out) (Ne.symm NOs.out) O3.out)
   clear hP hk B3 P3 Q3 O3
   go_wp2_with (fail)
   with_reducible refine (modem_c b _ OU.out y HY.out _ P4.out).mono ?_
   rintro q_ w' ⟨rfl, rfl⟩
   go_wp2_with (fail)
   with_reducible refine (rmodem_c r v s _ OU.out y HY.out _ Q4.out).mono ?_
   rintro q_ w' ⟨rfl, rfl⟩
   go_wp2
   go_roundg (gk - 1)
   ·exact ⟨t + 1, by omega, by have := TG.out; omega, by simp, B4.out, P4.out, Q4.out, O4.out⟩
   case measure => have := TG.out; omega
  ·obtain rfl : 3000 = t := by omega
   clear TG
   obtain ⟨hcO, hfO⟩ := O2.out.out
   go_upto_region 22 with (fail)
   obtain ⟨L_, hL_⟩ : ∃ x, x = (itM 3000 m) 8356 := ⟨_, rfl⟩
   obtain ⟨D_, hD_⟩ : ∃ x, x = (itM 3000 m) 8363 := ⟨_, rfl⟩
   obtain ⟨F_, hF_⟩ : ∃ x, x = (itM 3000 m) 8365 := ⟨_, rfl⟩
   have bL := (it_ok OK.out 3000).byte 8356 (by decide) (by decide)
   have bD := (it_ok OK.out 3000).byte 8363 (by decide) (by decide)
   have bF := (it_ok OK.out 3000).fr
   rw [← hL_] at bL
   rw [← hD_] at bD
   rw [← hF_] at bF
   have HL_ := Lib.hid hL_.symm
   have HD_ := Lib.hid hD_.symm
   have HF_ := Lib.hid hF_.symm
   clear hL_ hD_ hF_
   obtain ⟨ra, hra⟩ : ∃ x, x = readM (itM 3000 m) A := ⟨_, rfl⟩
   obtain ⟨pa, hpa⟩ : ∃ x, x = peekM (itM 3000 m) A := ⟨_, rfl⟩
   obtain ⟨rs, hrs⟩ : ∃ x, x = readM (itM 3000 m) 65345 := ⟨_, rfl⟩
   have C1 := Lib.hid (show ∀ W, Has W b (encU (itM 3000 m)) → Calls Try.prog 26 #[.pointer (some ⟨b, 0, none⟩), .int .u16 A] W fun q_ w' => q_ = .returned (.int .u8 ra) ∧ Below W.heap.size W w' from fun W hW => by
    rw [hra]
    exact read_c b _ (it_ok OK.out 3000) A bA.1 bA.2 W hW)
   have C2 := Lib.hid (show ∀ W, RU W r v s (itM 3000 m) → Calls Try.prog 32 #[.pointer (some ⟨r, 0, none⟩), .int .u16 A] W fun q_ w' => q_ = .returned (.int .u8 ra) ∧ Below W.heap.size W w' from fun W hW => by
    rw [hra]
    exact rread_c r v s _ (it_ok OK.out 3000) A bA.1 bA.2 W hW)
   have C3 := Lib.hid (show ∀ W, Has W b (encU (itM 3000 m)) → Calls Try.prog 27 #[.pointer (some ⟨b, 0, none⟩), .int .u16 A] W fun q_ w' => q_ = .returned (.int .u8 pa) ∧ Below W.heap.size W w' from fun W hW => by
    rw [hpa]
    exact peek_c b _ (it_ok OK.out 3000) A bA.1 bA.2 W hW)
   have C4 := Lib.hid (show ∀ W, RU W r v s (itM 3000 m) → Calls Try.prog 33 #[.pointer (some ⟨r, 0, none⟩), .int .u16 A] W fun q_ w' => q_ = .returned (.int .u8 pa) ∧ Below W.heap.size W w' from fun W hW => by
    rw [hpa]
    exact rpeek_c r v s _ (it_ok OK.out 3000) A bA.1 bA.2 W hW)
   have C5 := Lib.hid (show ∀ W, Has W b (encU (itM 3000 m)) → Calls Try.prog 26 #[.pointer (some ⟨b, 0, none⟩), .int .u16 65345] W fun q_ w' => q_ = .returned (.int .u8 rs) ∧ Below W.heap.size W w' from fun W hW => by
    rw [hrs]
    exact read_c b _ (it_ok OK.out 3000) 65345 (by decide) (by decide) W hW)
   have C6 := Lib.hid (show ∀ W, RU W r v s (itM 3000 m) → Calls Try.prog 32 #[.pointer (some ⟨r, 0, none⟩), .int .u16 65345] W fun q_ w' => q_ = .returned (.int .u8 rs) ∧ Below W.heap.size W w' from fun W hW => by
    rw [hrs]
    exact rread_c r v s _ (it_ok OK.out 3000) 65345 (by decide) (by decide) W hW)
   clear hra hpa hrs
   have e_L := rc_i v s (itM 3000 m) 14 L_ (by decide) (by decide) HL_.out
   have e_d := rc_i v s (itM 3000 m) 15 D_ (by decide) (by decide) HD_.out
   have e_fr := rc_i v s (itM 3000 m) 17 F_ (by decide) (by decide) HF_.out
   clear hcO hfO
   have B3 := Lib.hid B2.out.drew
   have P3 := Lib.hid P2.out.drew
   have Q3 := Lib.hid Q2.out.drew
   have O3 := Lib.hid O2.out.drew
   clear B2 P2 Q2 O2
   refine wp_region_held_drew (S := (fun w' => (∀ o, w'.cell? ⟨ob, o, none⟩ = (#[.int .i64 1, .int .i64 N, .int .u16 A, .int .u8 X, S] : Array Value)[o]?) ∧ (∀ o, w'.cell? ⟨r, o, none⟩ = (encR v s (itM 3000 m))[o]?))) (by kernel_rfl) ⟨O3.out.2.1, Q3.out.R.2.1⟩ (fun hHeld => ?_)
   generalize World.drew _ = u3 at hHeld B3 P3 Q3 O3 ⊢
   refine tzz 0 ?_
   refine tzz 1 ?_
   refine tzz 2 ?_
   refine tzz 4 ?_
   refine tzz 5 ?_
   refine tzz 6 ?_
   refine wpAnyH_ready (rs := [3]) (by kernel_rfl) (by simp) ?_
   refine (acc rfl (fun K hK => ?_) AllReadyH.nil)
   ·skip
    go_simp
    with_reducible refine (C1.out _ P3.out).mono ?_
    rintro q_ u4 ⟨rfl, hb⟩
    have B4 := Lib.hid (vianC HN.out B3.out hb)
    have P4 := Lib.hid (P3.out.below hb)
    have Q4 := Lib.hid (Q3.out.below hb)
    have O4 := Lib.hid (O3.out.below hb)
    clear hb B3 P3 Q3 O3
    refine hK.out _ _ ?s240 (fun hNew => ?r240)
    case s240 => exact ⟨O4.out.2.1, Q4.out.R.2.1⟩
    clear hK K hHeld
    have hHeld := hNew
    clear hNew
    refine wpAnyH_ready (rs := [7]) (by kernel_rfl) (by simp) ?_
    refine (acc rfl (fun K hK => ?_) AllReadyH.nil)
    ·skip
     go_simp
     with_reducible refine (C2.out _ Q4.out).mono ?_
     rintro q_ u5 ⟨rfl, hb⟩
     have B5 := Lib.hid (vianC HN.out B4.out hb)
     have P5 := Lib.hid (P4.out.below hb)
     have Q5 := Lib.hid (Q4.out.below hb)
     have O5 := Lib.hid (O4.out.below hb)
     clear hb B4 P4 Q4 O4
     refine hK.out _ _ ?s241 (fun hNew => ?r241)
     case s241 => exact ⟨O5.out.2.1, Q5.out.R.2.1⟩
     clear hK K hHeld
     have hHeld := hNew
     clear hNew
     refine tzz 8 ?_
     refine tzz 9 ?_
     refine tzz 10 ?_
     refine tzz 11 ?_
     refine tzz 12 ?_
     refine tzz 14 ?_
     refine tzz 15 ?_
     refine tzz 16 ?_
     refine wpAnyH_ready (rs := [13]) (by kernel_rfl) (by simp) ?_
     refine (acc rfl (fun K hK => ?_) AllReadyH.nil)
     ·skip
      go_simp
      with_reducible refine (C3.out _ P5.out).mono ?_
      rintro q_ u6 ⟨rfl, hb⟩
      have B6 := Lib.hid (vianC HN.out B5.out hb)
      have P6 := Lib.hid (P5.out.below hb)
      have Q6 := Lib.hid (Q5.out.below hb)
      have O6 := Lib.hid (O5.out.below hb)
      clear hb B5 P5 Q5 O5
      refine hK.out _ _ ?s250 (fun hNew => ?r250)
      case s250 => exact ⟨O6.out.2.1, Q6.out.R.2.1⟩
      clear hK K hHeld
      have hHeld := hNew
      clear hNew
      refine wpAnyH_ready (rs := [17]) (by kernel_rfl) (by simp) ?_
      refine (acc rfl (fun K hK => ?_) AllReadyH.nil)
      ·skip
       go_simp
       with_reducible refine (C4.out _ Q6.out).mono ?_
       rintro q_ u7 ⟨rfl, hb⟩
       have B7 := Lib.hid (vianC HN.out B6.out hb)
       have P7 := Lib.hid (P6.out.below hb)
       have Q7 := Lib.hid (Q6.out.below hb)
       have O7 := Lib.hid (O6.out.below hb)
       clear hb B6 P6 Q6 O6
       refine hK.out _ _ ?s251 (fun hNew => ?r251)
       case s251 => exact ⟨O7.out.2.1, Q7.out.R.2.1⟩
       clear hK K hHeld
       have hHeld := hNew
       clear hNew
       refine tzz 18 ?_
       refine tzz 19 ?_
       refine tzz 20 ?_
       refine tzz 21 ?_
       refine tzz 23 ?_
       refine wpAnyH_ready (rs := [22]) (by kernel_rfl) (by simp) ?_
       refine (acc rfl (fun K hK => ?_) AllReadyH.nil)
       ·skip
        go_simp
        with_reducible refine (C5.out _ P7.out).mono ?_
        rintro q_ u8 ⟨rfl, hb⟩
        have B8 := Lib.hid (vianC HN.out B7.out hb)
        have P8 := Lib.hid (P7.out.below hb)
        have Q8 := Lib.hid (Q7.out.below hb)
        have O8 := Lib.hid (O7.out.below hb)
        clear hb B7 P7 Q7 O7
        refine hK.out _ _ ?s257 (fun hNew => ?r257)
        case s257 => exact ⟨O8.out.2.1, Q8.out.R.2.1⟩
        clear hK K hHeld
        have hHeld := hNew
        clear hNew
        refine wpAnyH_ready (rs := [24]) (by kernel_rfl) (by simp) ?_
        refine (acc rfl (fun K hK => ?_) AllReadyH.nil)
        ·skip
         go_simp
         with_reducible refine (C6.out _ Q8.out).mono ?_
         rintro q_ u9 ⟨rfl, hb⟩
         have B9 := Lib.hid (vianC HN.out B8.out hb)
         have P9 := Lib.hid (P8.out.below hb)
         have Q9 := Lib.hid (Q8.out.below hb)
         have O9 := Lib.hid (O8.out.below hb)
         clear hb B8 P8 Q8 O8
         refine hK.out _ _ ?s258 (fun hNew => ?r258)
         case s258 => exact ⟨O9.out.2.1, Q9.out.R.2.1⟩
         clear hK K hHeld
         have hHeld := hNew
         clear hNew
         refine tzz 25 ?_
         refine tzz 26 ?_
         refine tzz 27 ?_
         refine tzz 28 ?_
         refine tzz 30 ?_
         refine tzz 31 ?_
         refine tzz 32 ?_
         refine tzz 33 ?_
         refine wpAnyH_ready (rs := [29]) (by kernel_rfl) (by simp) ?_
         refine (acc rfl (fun K hK => ?_) AllReadyH.nil)
         ·skip
          go_simp
          with_reducible refine (line_u b _ L_ HL_.out bL.1 bL.2 _ P9.out).mono ?_
          rintro q_ u10 ⟨rfl, hb⟩
          subst hb
          have B10 := B9
          have P10 := P9
          have Q10 := Q9
          have O10 := O9
          clear B9 P9 Q9 O9
          refine hK.out _ _ ?s267 (fun hNew => ?r267)
          case s267 => exact ⟨O10.out.2.1, Q10.out.R.2.1⟩
          clear hK K hHeld
          have hHeld := hNew
          clear hNew
          refine tzz 34 ?_
          refine tzz 35 ?_
          refine tzz 36 ?_
          refine tzz 37 ?_
          refine tzz 39 ?_
          refine tzz 40 ?_
          refine tzz 41 ?_
          refine tzz 42 ?_
          refine wpAnyH_ready (rs := [38]) (by kernel_rfl) (by simp) ?_
          refine (acc rfl (fun K hK => ?_) AllReadyH.nil)
          ·skip
           go_simp
           with_reducible refine (dot_u b _ D_ HD_.out bD.1 bD.2 _ P10.out).mono ?_
           rintro q_ u11 ⟨rfl, hb⟩
           subst hb
           have B11 := B10
           have P11 := P10
           have Q11 := Q10
           have O11 := O10
           clear B10 P10 Q10 O10
           refine hK.out _ _ ?s276 (fun hNew => ?r276)
           case s276 => exact ⟨O11.out.2.1, Q11.out.R.2.1⟩
           clear hK K hHeld
           have hHeld := hNew
           clear hNew
           refine tzz 43 ?_
           refine tzz 44 ?_
           refine tzz 45 ?_
           refine tzz 46 ?_
           refine tzz 48 ?_
           refine tzz 49 ?_
           refine tzz 50 ?_
           refine tzz 51 ?_
           refine wpAnyH_ready (rs := [47]) (by kernel_rfl) (by simp) ?_
           refine (acc rfl (fun K hK => ?_) AllReadyH.nil)
           ·skip
            go_simp
            with_reducible refine (frames_u b _ F_ HF_.out bF.1 bF.2 _ P11.out).mono ?_
            rintro q_ u12 ⟨rfl, hb⟩
            subst hb
            have B12 := B11
            have P12 := P11
            have Q12 := Q11
            have O12 := O11
            clear B11 P11 Q11 O11
            refine hK.out _ _ ?s285 (fun hNew => ?r285)
            case s285 => exact ⟨O12.out.2.1, Q12.out.R.2.1⟩
            clear hK K hHeld
            have hHeld := hNew
            clear hNew
            refine tzz 52 ?_
            refine tzz 53 ?_
            refine tzz 54 ?_
            refine wpAnyH_done (by kernel_rfl) ?_ _
            clear hHeld
            obtain ⟨hcO, hfO⟩ := O12.out.out
            go_wp2
            all_goals exact bodyPost_ret (v := .bool true) (by simp [results, Try.results14, go_sem]) rfl ⟨rfl, P12.out, Q12.out, B12.out⟩
end Go.Proofs.Ytpfbodmadmneiaa
