/-
 A call of a law on both units side by side: the sprite memory: for every unit as it can be; no other condition but that each number fits.
-/
import Derived.Test.YtpfbodmadmneiaaTz
import Derived.Test.YtpfbodmadmneiaaDcK
import Derived.Test.YtpfbodmadmneiaaAw
import Derived.Deep.Cut
import Derived.BigQuiet
import Derived.WalkSmall
import Derived.Deep.LoopGhost
import Derived.Deep.DeepCutAuto
import Derived.Deep.CutBlock
namespace Go.Proofs.Ytpfbodmadmneiaa
open Go.ChangeShapes Go.WideShapes Go.ChangeAt Go.RowKit
set_option linter.unusedVariables false
set_option linter.unusedSimpArgs false
set_option maxRecDepth 100000
set_option maxHeartbeats 16000000 in
theorem do_3i (c_ : Nat) (A_ : Array Value) (n_ : Nat) (W0 : World) (b r v s : Nat) (NC_ : c_ ≠ b ∧ c_ ≠ r ∧ c_ ≠ v ∧ c_ ≠ s) (AP : Apart b r v s) (lb : n_ ≤ b) (lr : n_ ≤ r) (lv : n_ ≤ v) (ls : n_ ≤ s) (hn : n_ ≤ W0.heap.size) (m : M) (ok : Ok m) (N A X : Int) (bN : -9223372036854775808 ≤ N ∧ N ≤ 9223372036854775807) (bA : 0 ≤ A ∧ A < 65536) (bX : 0 ≤ X ∧ X < 256) (S : Value) (LN : Nat) (F : M) (hS : BsB n_ W0 S LN F) (hLN : LN ≤ 600) (k : Nat) (k1 : k < 160) (hk : N = (k : Int)) (w : World) (hP : Has w b (encU m)) (hQ : RU w r v s m) (hB : BelC c_ A_ n_ W0 w) : Calls Try.prog 14 #[.pointer (some ⟨b, 0, none⟩), .pointer (some ⟨r, 0, none⟩), .agg #[.int .i64 3, .int .i64 N, .int .u16 A, .int .u8 X, S]] w fun q_ w' => q_ = .returned (.bool true) ∧ Has w' b (encU (upd m (8192 + k) X)) ∧ RU w' r v s (upd m (8192 + k) X) ∧ BelC c_ A_ n_ W0 w' := by
 have HN := Lib.hid hn
 have NC := Lib.hid NC_
 clear NC_
 have LP := Lib.hid lb
 have LR := Lib.hid lr
 have LV := Lib.hid lv
 have LS := Lib.hid ls
 have NB := Lib.hid AP
 have OK := Lib.hid ok
 have HS := Lib.hid hS
 obtain ⟨u0, hu0⟩ : ∃ u0, u0 = w := ⟨_, rfl⟩
 rw [← hu0] at hP hQ hB ⊢
 have P0 := Lib.hid hP
 have Q0 := Lib.hid hQ
 have B0 := Lib.hid hB
 clear hn lb lr lv ls AP ok hS hP hQ hB hu0
 subst hk
 have k2 : (k : Int) < 160 := by omega
 have OK2 := Lib.hid (ok_upd OK.out (8192 + k) X bX (by omega) (by omega))
 have C7 := Lib.hid (show ∀ W, Has W b (encU m) → Calls Try.prog 28 #[.pointer (some ⟨b, 0, none⟩), .int .i64 (k : Int), .int .u8 X] W fun q_ w' => q_ = .returned (.tuple #[]) ∧ Has w' b (encU (upd m (8192 + k) X)) ∧ Keeps b W w' from fun W hW => spr_in b m k k1 X bX.1 bX.2 W hW)
 go_enter Try.func14, Try.ntmps14
 have hnot : ∀ (x : Bool) (w : World), (Op.unary .not (.bool x)).run Try.prog w = .ok (.bool (!x)) w := fun _ _ => rfl
 have Q_ := own1 u0 (.cells #[.int .i64 3, .int .i64 (k : Int), .int .u16 A, .int .u8 X, S] 33)
 have B1 := Lib.hid (vianC HN.out B0.out Q_)
 have P1 := Lib.hid (P0.out.below Q_)
 have Q1 := Lib.hid (Q0.out.below Q_)
 have O1 := Lib.hid (Has.new u0 #[.int .i64 3, .int .i64 (k : Int), .int .u16 A, .int .u8 X, S] 33)
 have LO := Lib.hid (Nat.le_trans HN.out B0.out.size)
 have NOb := Lib.hid (Nat.ne_of_lt P0.out.1)
 have NOr := Lib.hid (Nat.ne_of_lt Q0.out.R.1)
 have NOv := Lib.hid (Nat.ne_of_lt Q0.out.V.1)
 have NOs := Lib.hid (Nat.ne_of_lt Q0.out.S.1)
 clear Q_
 go_upto_region 1 with (fail)
 generalize u0.alloc (.cells #[.int .i64 3, .int .i64 (k : Int), .int .u16 A, .int .u8 X, S] 33) = u1 at B1 P1 Q1 O1 ⊢
 generalize u0.heap.size = ob at O1 LO NOb NOr NOv NOs ⊢
 clear B0 P0 Q0
 obtain ⟨hcO, hfO⟩ := O1.out.out
 go_wp2_with (fail)
 with_reducible refine (C7.out _ P1.out).mono ?_
 rintro q_ u2 ⟨rfl, hP, hk⟩
 have P2 := Lib.hid hP
 have B2 := Lib.hid (hk.belowC HN.out LP.out NC.out.1 B1.out)
 have Q2 := Lib.hid (Q1.out.other hk NB.out.r NB.out.v NB.out.s)
 have O2 := Lib.hid (hk.has (Ne.symm NOb.out) O1.out)
 clear hP hk B1 P1 Q1 O1
 clear hcO hfO
 obtain ⟨hcO, hfO⟩ := O2.out.out
 go_upto_region 14 with (fail)
 clear hcO hfO
 have B3 := Lib.hid B2.out.drew
 have P3 := Lib.hid P2.out.drew
 have Q3 := Lib.hid Q2.out.drew
 have O3 := Lib.hid O2.out.drew
 clear B2 P2 Q2 O2
 refine wp_region_held_drew (S := (fun w' => (∀ o, w'.cell? ⟨ob, o, none⟩ = (#[.int .i64 3, .int .i64 (k : Int), .int .u16 A, .int .u8 X, S] : Array Value)[o]?) ∧ w'.cell? ⟨r, 1, none⟩ = some (.slice (some ⟨s, 0, none⟩) 160 160))) (by kernel_rfl) ⟨O3.out.2.1, (Q3.out.R.2.1 1).trans (encR_S _ _ _)⟩ (fun hHeld => ?_)
 generalize World.drew _ = u3 at hHeld B3 P3 Q3 O3 ⊢
 refine tzz 0 ?_
 refine tzz 1 ?_
 refine tzz 2 ?_
 refine tzz 3 ?_
 refine tzz 4 ?_
 refine tzz 5 ?_
 refine tzz 6 ?_
 refine tzz 7 ?_
 refine tzz 8 ?_
 refine wpAnyH_ready (rs := [9]) (by kernel_rfl) (by simp) ?_
 refine (acc rfl (fun K hK => ?_) AllReadyH.nil)
 ·skip
  refine wp_store_o Q3.out.S _ _ rfl k rfl _ rfl (by omega) ?_
  intro u4 hP hk
  try simp only [Act.put, qqA, qqB, qqC]
  have Q4 := Lib.hid (Q3.out.setS k X (by omega) hP hk)
  replace hk := Keep3.ofS (r := r) (v := v) hk
  have B4 := Lib.hid (hk.belowC HN.out LR.out LV.out LS.out NC.out B3.out)
  have P4 := Lib.hid (hk.has NB.out.r NB.out.v NB.out.s P3.out)
  have O4 := Lib.hid (hk.has (Ne.symm NOr.out) (Ne.symm NOv.out) (Ne.symm NOs.out) O3.out)
  clear hP hk B3 P3 Q3 O3
  refine hK.out _ _ ?s298 (fun hNew => ?r298)
  case s298 => exact ⟨O4.out.2.1, (Q4.out.R.2.1 1).trans (encR_S _ _ _)⟩
  clear hK K hHeld
  have hHeld := hNew
  clear hNew
  refine wpAnyH_done (by kernel_rfl) ?_ _
  clear hHeld
  obtain ⟨hcO, hfO⟩ := O4.out.out
  go_upto_region 22 with (fail)
  obtain ⟨L_, hL_⟩ : ∃ x, x = (upd m (8192 + k) X) 8356 := ⟨_, rfl⟩
  obtain ⟨D_, hD_⟩ : ∃ x, x = (upd m (8192 + k) X) 8363 := ⟨_, rfl⟩
  obtain ⟨F_, hF_⟩ : ∃ x, x = (upd m (8192 + k) X) 8365 := ⟨_, rfl⟩
  have bL := (OK2.out).byte 8356 (by decide) (by decide)
  have bD := (OK2.out).byte 8363 (by decide) (by decide)
  have bF := (OK2.out).fr
  rw [← hL_] at bL
  rw [← hD_] at bD
  rw [← hF_] at bF
  have HL_ := Lib.hid hL_.symm
  have HD_ := Lib.hid hD_.symm
  have HF_ := Lib.hid hF_.symm
  clear hL_ hD_ hF_
  obtain ⟨ra, hra⟩ : ∃ x, x = readM (upd m (8192 + k) X) A := ⟨_, rfl⟩
  obtain ⟨pa, hpa⟩ : ∃ x, x = peekM (upd m (8192 + k) X) A := ⟨_, rfl⟩
  obtain ⟨rs, hrs⟩ : ∃ x, x = readM (upd m (8192 + k) X) 65345 := ⟨_, rfl⟩
  have C1 := Lib.hid (show ∀ W, Has W b (encU (upd m (8192 + k) X)) → Calls Try.prog 26 #[.pointer (some ⟨b, 0, none⟩), .int .u16 A] W fun q_ w' => q_ = .returned (.int .u8 ra) ∧ Below W.heap.size W w' from fun W hW => by
   rw [hra]
   exact read_c b _ (OK2.out) A bA.1 bA.2 W hW)
  have C2 := Lib.hid (show ∀ W, RU W r v s (upd m (8192 + k) X) → Calls Try.prog 32 #[.pointer (some ⟨r, 0, none⟩), .int .u16 A] W fun q_ w' => q_ = .returned (.int .u8 ra) ∧ Below W.heap.size W w' from fun W hW => by
   rw [hra]
   exact rread_c r v s _ (OK2.out) A bA.1 bA.2 W hW)
  have C3 := Lib.hid (show ∀ W, Has W b (encU (upd m (8192 + k) X)) → Calls Try.prog 27 #[.pointer (some ⟨b, 0, none⟩), .int .u16 A] W fun q_ w' => q_ = .returned (.int .u8 pa) ∧ Below W.heap.size W w' from fun W hW => by
   rw [hpa]
   exact peek_c b _ (OK2.out) A bA.1 bA.2 W hW)
  have C4 := Lib.hid (show ∀ W, RU W r v s (upd m (8192 + k) X) → Calls Try.prog 33 #[.pointer (some ⟨r, 0, none⟩), .int .u16 A] W fun q_ w' => q_ = .returned (.int .u8 pa) ∧ Below W.heap.size W w' from fun W hW => by
   rw [hpa]
   exact rpeek_c r v s _ (OK2.out) A bA.1 bA.2 W hW)
  have C5 := Lib.hid (show ∀ W, Has W b (encU (upd m (8192 + k) X)) → Calls Try.prog 26 #[.pointer (some ⟨b, 0, none⟩), .int .u16 65345] W fun q_ w' => q_ = .returned (.int .u8 rs) ∧ Below W.heap.size W w' from fun W hW => by
   rw [hrs]
   exact read_c b _ (OK2.out) 65345 (by decide) (by decide) W hW)
  have C6 := Lib.hid (show ∀ W, RU W r v s (upd m (8192 + k) X) → Calls Try.prog 32 #[.pointer (some ⟨r, 0, none⟩), .int .u16 65345] W fun q_ w' => q_ = .returned (.int .u8 rs) ∧ Below W.heap.size W w' from fun W hW => by
   rw [hrs]
   exact rread_c r v s _ (OK2.out) 65345 (by decide) (by decide) W hW)
  clear hra hpa hrs
  have e_L := rc_i v s (upd m (8192 + k) X) 14 L_ (by decide) (by decide) HL_.out
  have e_d := rc_i v s (upd m (8192 + k) X) 15 D_ (by decide) (by decide) HD_.out
  have e_fr := rc_i v s (upd m (8192 + k) X) 17 F_ (by decide) (by decide) HF_.out
  clear hcO hfO
  have B5 := Lib.hid B4.out.drew
  have P5 := Lib.hid P4.out.drew
  have Q5 := Lib.hid Q4.out.drew
  have O5 := Lib.hid O4.out.drew
  clear B4 P4 Q4 O4
  refine wp_region_held_drew (S := (fun w' => (∀ o, w'.cell? ⟨ob, o, none⟩ = (#[.int .i64 3, .int .i64 (k : Int), .int .u16 A, .int .u8 X, S] : Array Value)[o]?) ∧ (∀ o, w'.cell? ⟨r, o, none⟩ = (encR v s (upd m (8192 + k) X))[o]?))) (by kernel_rfl) ⟨O5.out.2.1, Q5.out.R.2.1⟩ (fun hHeld => ?_)
  generalize World.drew _ = u5 at hHeld B5 P5 Q5 O5 ⊢
  refine tzz 0 ?_
  refine tzz 1 ?_
  refine tzz 2 ?_
  refine tzz 4 ?_
  refine tzz 5 ?_
  refine tzz 6 ?_
  refine wpAnyH_ready (rs := [3]) (by kernel_rfl) (by simp) ?_
  refine (acc rfl (fun K hK => ?_) AllReadyH.nil)
  ·skip
   go_simp
   with_reducible refine (C1.out _ P5.out).mono ?_
   rintro q_ u6 ⟨rfl, hb⟩
   have B6 := Lib.hid (vianC HN.out B5.out hb)
   have P6 := Lib.hid (P5.out.below hb)
   have Q6 := Lib.hid (Q5.out.below hb)
   have O6 := Lib.hid (O5.out.below hb)
   clear hb B5 P5 Q5 O5
   refine hK.out _ _ ?s305 (fun hNew => ?r305)
   case s305 => exact ⟨O6.out.2.1, Q6.out.R.2.1⟩
   clear hK K hHeld
   have hHeld := hNew
   clear hNew
   refine wpAnyH_ready (rs := [7]) (by kernel_rfl) (by simp) ?_
   refine (acc rfl (fun K hK => ?_) AllReadyH.nil)
   ·skip
    go_simp
    with_reducible refine (C2.out _ Q6.out).mono ?_
    rintro q_ u7 ⟨rfl, hb⟩
    have B7 := Lib.hid (vianC HN.out B6.out hb)
    have P7 := Lib.hid (P6.out.below hb)
    have Q7 := Lib.hid (Q6.out.below hb)
    have O7 := Lib.hid (O6.out.below hb)
    clear hb B6 P6 Q6 O6
    refine hK.out _ _ ?s306 (fun hNew => ?r306)
    case s306 => exact ⟨O7.out.2.1, Q7.out.R.2.1⟩
    clear hK K hHeld
    have hHeld := hNew
    clear hNew
    refine tzz 8 ?_
    refine tzz 9 ?_
    refine tzz 10 ?_
    refine tzz 11 ?_
    refine tzz 12 ?_
    refine tzz 14 ?_
    refine tzz 15 ?_
    refine tzz 16 ?_
    refine wpAnyH_ready (rs := [13]) (by kernel_rfl) (by simp) ?_
    refine (acc rfl (fun K hK => ?_) AllReadyH.nil)
    ·skip
     go_simp
     with_reducible refine (C3.out _ P7.out).mono ?_
     rintro q_ u8 ⟨rfl, hb⟩
     have B8 := Lib.hid (vianC HN.out B7.out hb)
     have P8 := Lib.hid (P7.out.below hb)
     have Q8 := Lib.hid (Q7.out.below hb)
     have O8 := Lib.hid (O7.out.below hb)
     clear hb B7 P7 Q7 O7
     refine hK.out _ _ ?s315 (fun hNew => ?r315)
     case s315 => exact ⟨O8.out.2.1, Q8.out.R.2.1⟩
     clear hK K hHeld
     have hHeld := hNew
     clear hNew
     refine wpAnyH_ready (rs := [17]) (by kernel_rfl) (by simp) ?_
     refine (acc rfl (fun K hK => ?_) AllReadyH.nil)
     ·skip
      go_simp
      with_reducible refine (C4.out _ Q8.out).mono ?_
      rintro q_ u9 ⟨rfl, hb⟩
      have B9 := Lib.hid (vianC HN.out B8.out hb)
      have P9 := Lib.hid (P8.out.below hb)
      have Q9 := Lib.hid (Q8.out.below hb)
      have O9 := Lib.hid (O8.out.below hb)
      clear hb B8 P8 Q8 O8
      refine hK.out _ _ ?s316 (fun hNew => ?r316)
      case s316 => exact ⟨O9.out.2.1, Q9.out.R.2.1⟩
      clear hK K hHeld
      have hHeld := hNew
      clear hNew
      refine tzz 18 ?_
      refine tzz 19 ?_
      refine tzz 20 ?_
      refine tzz 21 ?_
      refine tzz 23 ?_
      refine wpAnyH_ready (rs := [22]) (by kernel_rfl) (by simp) ?_
      refine (acc rfl (fun K hK => ?_) AllReadyH.nil)
      ·skip
       go_simp
       with_reducible refine (C5.out _ P9.out).mono ?_
       rintro q_ u10 ⟨rfl, hb⟩
       have B10 := Lib.hid (vianC HN.out B9.out hb)
       have P10 := Lib.hid (P9.out.below hb)
       have Q10 := Lib.hid (Q9.out.below hb)
       have O10 := Lib.hid (O9.out.below hb)
       clear hb B9 P9 Q9 O9
       refine hK.out _ _ ?s322 (fun hNew => ?r322)
       case s322 => exact ⟨O10.out.2.1, Q10.out.R.2.1⟩
       clear hK K hHeld
       have hHeld := hNew
       clear hNew
       refine wpAnyH_ready (rs := [24]) (by kernel_rfl) (by simp) ?_
       refine (acc rfl (fun K hK => ?_) AllReadyH.nil)
       ·skip
        go_simp
        with_reducible refine (C6.out _ Q10.out).mono ?_
        rintro q_ u11 ⟨rfl, hb⟩
        have B11 := Lib.hid (vianC HN.out B10.out hb)
        have P11 := Lib.hid (P10.out.below hb)
        have Q11 := Lib.hid (Q10.out.below hb)
        have O11 := Lib.hid (O10.out.below hb)
        clear hb B10 P10 Q10 O10
        refine hK.out _ _ ?s323 (fun hNew => ?r323)
        case s323 => exact ⟨O11.out.2.1, Q11.out.R.2.1⟩
        clear hK K hHeld
        have hHeld := hNew
        clear hNew
        refine tzz 25 ?_
        refine tzz 26 ?_
        refine tzz 27 ?_
        refine tzz 28 ?_
        refine tzz 30 ?_
        refine tzz 31 ?_
        refine tzz 32 ?_
        refine tzz 33 ?_
        refine wpAnyH_ready (rs := [29]) (by kernel_rfl) (by simp) ?_
        refine (acc rfl (fun K hK => ?_) AllReadyH.nil)
        ·skip
         go_simp
         with_reducible refine (line_u b _ L_ HL_.out bL.1 bL.2 _ P11.out).mono ?_
         rintro q_ u12 ⟨rfl, hb⟩
         subst hb
         have B12 := B11
         have P12 := P11
         have Q12 := Q11
         have O12 := O11
         clear B11 P11 Q11 O11
         refine hK.out _ _ ?s332 (fun hNew => ?r332)
         case s332 => exact ⟨O12.out.2.1, Q12.out.R.2.1⟩
         clear hK K hHeld
         have hHeld := hNew
         clear hNew
         refine tzz 34 ?_
         refine tzz 35 ?_
         refine tzz 36 ?_
         refine tzz 37 ?_
         refine tzz 39 ?_
         refine tzz 40 ?_
         refine tzz 41 ?_
         refine tzz 42 ?_
         refine wpAnyH_ready (rs := [38]) (by kernel_rfl) (by simp) ?_
         refine (acc rfl (fun K hK => ?_) AllReadyH.nil)
         ·skip
          go_simp
          with_reducible refine (dot_u b _ D_ HD_.out bD.1 bD.2 _ P12.out).mono ?_
          rintro q_ u13 ⟨rfl, hb⟩
          subst hb
          have B13 := B12
          have P13 := P12
          have Q13 := Q12
          have O13 := O12
          clear B12 P12 Q12 O12
          refine hK.out _ _ ?s341 (fun hNew => ?r341)
          case s341 => exact ⟨O13.out.2.1, Q13.out.R.2.1⟩
          clear hK K hHeld
          have hHeld := hNew
          clear hNew
          refine tzz 43 ?_
          refine tzz 44 ?_
          refine tzz 45 ?_
          refine tzz 46 ?_
          refine tzz 48 ?_
          refine tzz 49 ?_
          refine tzz 50 ?_
          refine tzz 51 ?_
          refine wpAnyH_ready (rs := [47]) (by kernel_rfl) (by simp) ?_
          refine (acc rfl (fun K hK => ?_) AllReadyH.nil)
          ·skip
           go_simp
           with_reducible refine (frames_u b _ F_ HF_.out bF.1 bF.2 _ P13.out).mono ?_
           rintro q_ u14 ⟨rfl, hb⟩
           subst hb
           have B14 := B13
           have P14 := P13
           have Q14 := Q13
           have O14 := O13
           clear B13 P13 Q13 O13
           refine hK.out _ _ ?s350 (fun hNew => ?r350)
           case s350 => exact ⟨O14.out.2.1, Q14.out.R.2.1⟩
           clear hK K hHeld
           have hHeld := hNew
           clear hNew
           refine tzz 52 ?_
           refine tzz 53 ?_
           refine tzz 54 ?_
           refine wpAnyH_done (by kernel_rfl) ?_ _
           clear hHeld
           obtain ⟨hcO, hfO⟩ := O14.out.out
           go_wp2
           all_goals exact bodyPost_ret (v := .bool true) (by simp [results, Try.results14, go_sem]) rfl ⟨rfl, P14.out, Q14.out, B14.out⟩
set_option maxHeartbeats 16000000 in
theorem do_3l (c_ : Nat) (A_ : Array Value) (n_ : Nat) (W0 : World) (b r v s : Nat) (NC_ : c_ ≠ b ∧ c_ ≠ r ∧ c_ ≠ v ∧ c_ ≠ s) (AP : Apart b r v s) (lb : n_ ≤ b) (lr : n_ ≤ r) (lv : n_ ≤ v) (ls : n_ ≤ s) (hn : n_ ≤ W0.heap.size) (m : M) (ok : Ok m) (N A X : Int) (bN : -9223372036854775808 ≤ N ∧ N ≤ 9223372036854775807) (bA : 0 ≤ A ∧ A < 65536) (bX : 0 ≤ X ∧ X < 256) (S : Value) (LN : Nat) (F : M) (hS : BsB n_ W0 S LN F) (hLN : LN ≤ 600) (h1 : N < 0) (w : World) (hP : Has w b (encU m)) (hQ : RU w r v s m) (hB : BelC c_ A_ n_ W0 w) : Calls Try.prog 14 #[.pointer (some ⟨b, 0, none⟩), .pointer (some ⟨r, 0, none⟩), .agg #[.int .i64 3, .int .i64 N, .int .u16 A, .int .u8 X, S]] w fun q_ w' => q_ = .returned (.bool true) ∧ Has w' b (encU (m)) ∧ RU w' r v s (m) ∧ BelC c_ A_ n_ W0 w' := by
 have HN := Lib.hid hn
 have NC := Lib.hid NC_
 clear NC_
 have LP := Lib.hid lb
 have LR := Lib.hid lr
 have LV := Lib.hid lv
 have LS := Lib.hid ls
 have NB := Lib.hid AP
 have OK := Lib.hid ok
 have HS := Lib.hid hS
 obtain ⟨u0, hu0⟩ : ∃ u0, u0 = w := ⟨_, rfl⟩
 rw [← hu0] at hP hQ hB ⊢
 have P0 := Lib.hid hP
 have Q0 := Lib.hid hQ
 have B0 := Lib.hid hB
 clear hn lb lr lv ls AP ok hS hP hQ hB hu0
 have q1 : ¬ 0 ≤ N := by omega
 have C7 := Lib.hid (show ∀ W, Has W b (encU m) → Calls Try.prog 28 #[.pointer (some ⟨b, 0, none⟩), .int .i64 N, .int .u8 X] W fun q_ w' => q_ = .returned (.tuple #[]) ∧ Has w' b (encU m) ∧ Keeps b W w' from fun W hW => spr_lo b m N bN.1 bN.2 X bX.1 bX.2 h1 W hW)
 go_enter Try.func14, Try.ntmps14
 have hnot : ∀ (x : Bool) (w : World), (Op.unary .not (.bool x)).run Try.prog w = .ok (.bool (!x)) w := fun _ _ => rfl
 have Q_ := own1 u0 (.cells #[.int .i64 3, .int .i64 N, .int .u16 A, .int .u8 X, S] 33)
 have B1 := Lib.hid (vianC HN.out B0.out Q_)
 have P1 := Lib.hid (P0.out.below Q_)
 have Q1 := Lib.hid (Q0.out.below Q_)
 have O1 := Lib.hid (Has.new u0 #[.int .i64 3, .int .i64 N, .int .u16 A, .int .u8 X, S] 33)
 have LO := Lib.hid (Nat.le_trans HN.out B0.out.size)
 have NOb := Lib.hid (Nat.ne_of_lt P0.out.1)
 have NOr := Lib.hid (Nat.ne_of_lt Q0.out.R.1)
 have NOv := Lib.hid (Nat.ne_of_lt Q0.out.V.1)
 have NOs := Lib.hid (Nat.ne_of_lt Q0.out.S.1)
 clear Q_
 go_upto_region 1 with (fail)
 generalize u0.alloc (.cells #[.int .i64 3, .int .i64 N, .int .u16 A, .int .u8 X, S] 33) = u1 at B1 P1 Q1 O1 ⊢
 generalize u0.heap.size = ob at O1 LO NOb NOr NOv NOs ⊢
 clear B0 P0 Q0
 obtain ⟨hcO, hfO⟩ := O1.out.out
 go_wp2_with (fail)
 with_reducible refine (C7.out _ P1.out).mono ?_
 rintro q_ u2 ⟨rfl, hP, hk⟩
 have P2 := Lib.hid hP
 have B2 := Lib.hid (hk.belowC HN.out LP.out NC.out.1 B1.out)
 have Q2 := Lib.hid (Q1.out.other hk NB.out.r NB.out.v NB.out.s)
 have O2 := Lib.hid (hk.has (Ne.symm NOb.out) O1.out)
 clear hP hk B1 P1 Q1 O1
 clear hcO hfO
 obtain ⟨hcO, hfO⟩ := O2.out.out
 go_upto_region 22 with (fail)
 obtain ⟨L_, hL_⟩ : ∃ x, x = (m) 8356 := ⟨_, rfl⟩
 obtain ⟨D_, hD_⟩ : ∃ x, x = (m) 8363 := ⟨_, rfl⟩
 obtain ⟨F_, hF_⟩ : ∃ x, x = (m) 8365 := ⟨_, rfl⟩
 have bL := (OK.out).byte 8356 (by decide) (by decide)
 have bD := (OK.out).byte 8363 (by decide) (by decide)
 have bF := (OK.out).fr
 rw [← hL_] at bL
 rw [← hD_] at bD
 rw [← hF_] at bF
 have HL_ := Lib.hid hL_.symm
 have HD_ := Lib.hid hD_.symm
 have HF_ := Lib.hid hF_.symm
 clear hL_ hD_ hF_
 obtain ⟨ra, hra⟩ : ∃ x, x = readM (m) A := ⟨_, rfl⟩
 obtain ⟨pa, hpa⟩ : ∃ x, x = peekM (m) A := ⟨_, rfl⟩
 obtain ⟨rs, hrs⟩ : ∃ x, x = readM (m) 65345 := ⟨_, rfl⟩
 have C1 := Lib.hid (show ∀ W, Has W b (encU (m)) → Calls Try.prog 26 #[.pointer (some ⟨b, 0, none⟩), .int .u16 A] W fun q_ w' => q_ = .returned (.int .u8 ra) ∧ Below W.heap.size W w' from fun W hW => by
  rw [hra]
  exact read_c b _ (OK.out) A bA.1 bA.2 W hW)
 have C2 := Lib.hid (show ∀ W, RU W r v s (m) → Calls Try.prog 32 #[.pointer (some ⟨r, 0, none⟩), .int .u16 A] W fun q_ w' => q_ = .returned (.int .u8 ra) ∧ Below W.heap.size W w' from fun W hW => by
  rw [hra]
  exact rread_c r v s _ (OK.out) A bA.1 bA.2 W hW)
 have C3 := Lib.hid (show ∀ W, Has W b (encU (m)) → Calls Try.prog 27 #[.pointer (some ⟨b, 0, none⟩), .int .u16 A] W fun q_ w' => q_ = .returned (.int .u8 pa) ∧ Below W.heap.size W w' from fun W hW => by
  rw [hpa]
  exact peek_c b _ (OK.out) A bA.1 bA.2 W hW)
 have C4 := Lib.hid (show ∀ W, RU W r v s (m) → Calls Try.prog 33 #[.pointer (some ⟨r, 0, none⟩), .int .u16 A] W fun q_ w' => q_ = .returned (.int .u8 pa) ∧ Below W.heap.size W w' from fun W hW => by
  rw [hpa]
  exact rpeek_c r v s _ (OK.out) A bA.1 bA.2 W hW)
 have C5 := Lib.hid (show ∀ W, Has W b (encU (m)) → Calls Try.prog 26 #[.pointer (some ⟨b, 0, none⟩), .int .u16 65345] W fun q_ w' => q_ = .returned (.int .u8 rs) ∧ Below W.heap.size W w' from fun W hW => by
  rw [hrs]
  exact read_c b _ (OK.out) 65345 (by decide) (by decide) W hW)
 have C6 := Lib.hid (show ∀ W, RU W r v s (m) → Calls Try.prog 32 #[.pointer (some ⟨r, 0, none⟩), .int .u16 65345] W fun q_ w' => q_ = .returned (.int .u8 rs) ∧ Below W.heap.size W w' from fun W hW => by
  rw [hrs]
  exact rread_c r v s _ (OK.out) 65345 (by decide) (by decide) W hW)
 clear hra hpa hrs
 have e_L := rc_i v s (m) 14 L_ (by decide) (by decide) HL_.out
 have e_d := rc_i v s (m) 15 D_ (by decide) (by decide) HD_.out
 have e_fr := rc_i v s (m) 17 F_ (by decide) (by decide) HF_.out
 clear hcO hfO
 have B3 := Lib.hid B2.out.drew
 have P3 := Lib.hid P2.out.drew
 have Q3 := Lib.hid Q2.out.drew
 have O3 := Lib.hid O2.out.drew
 clear B2 P2 Q2 O2
 refine wp_region_held_drew (S := (fun w' => (∀ o, w'.cell? ⟨ob, o, none⟩ = (#[.int .i64 3, .int .i64 N, .int .u16 A, .int .u8 X, S] : Array Value)[o]?) ∧ (∀ o, w'.cell? ⟨r, o, none⟩ = (encR v s (m))[o]?))) (by kernel_rfl) ⟨O3.out.2.1, Q3.out.R.2.1⟩ (fun hHeld => ?_)
 generalize World.drew _ = u3 at hHeld B3 P3 Q3 O3 ⊢
 refine tzz 0 ?_
 refine tzz 1 ?_
 refine tzz 2 ?_
 refine tzz 4 ?_
 refine tzz 5 ?_
 refine tzz 6 ?_
 refine wpAnyH_ready (rs := [3]) (by kernel_rfl) (by simp) ?_
 refine (acc rfl (fun K hK => ?_) AllReadyH.nil)
 ·skip
  go_simp
  with_reducible refine (C1.out _ P3.out).mono ?_
  rintro q_ u4 ⟨rfl, hb⟩
  have B4 := Lib.hid (vianC HN.out B3.out hb)
  have P4 := Lib.hid (P3.out.below hb)
  have Q4 := Lib.hid (Q3.out.below hb)
  have O4 := Lib.hid (O3.out.below hb)
  clear hb B3 P3 Q3 O3
  refine hK.out _ _ ?s360 (fun hNew => ?r360)
  case s360 => exact ⟨O4.out.2.1, Q4.out.R.2.1⟩
  clear hK K hHeld
  have hHeld := hNew
  clear hNew
  refine wpAnyH_ready (rs := [7]) (by kernel_rfl) (by simp) ?_
  refine (acc rfl (fun K hK => ?_) AllReadyH.nil)
  ·skip
   go_simp
   with_reducible refine (C2.out _ Q4.out).mono ?_
   rintro q_ u5 ⟨rfl, hb⟩
   have B5 := Lib.hid (vianC HN.out B4.out hb)
   have P5 := Lib.hid (P4.out.below hb)
   have Q5 := Lib.hid (Q4.out.below hb)
   have O5 := Lib.hid (O4.out.below hb)
   clear hb B4 P4 Q4 O4
   refine hK.out _ _ ?s361 (fun hNew => ?r361)
   case s361 => exact ⟨O5.out.2.1, Q5.out.R.2.1⟩
   clear hK K hHeld
   have hHeld := hNew
   clear hNew
   refine tzz 8 ?_
   refine tzz 9 ?_
   refine tzz 10 ?_
   refine tzz 11 ?_
   refine tzz 12 ?_
   refine tzz 14 ?_
   refine tzz 15 ?_
   refine tzz 16 ?_
   refine wpAnyH_ready (rs := [13]) (by kernel_rfl) (by simp) ?_
   refine (acc rfl (fun K hK => ?_) AllReadyH.nil)
   ·skip
    go_simp
    with_reducible refine (C3.out _ P5.out).mono ?_
    rintro q_ u6 ⟨rfl, hb⟩
    have B6 := Lib.hid (vianC HN.out B5.out hb)
    have P6 := Lib.hid (P5.out.below hb)
    have Q6 := Lib.hid (Q5.out.below hb)
    have O6 := Lib.hid (O5.out.below hb)
    clear hb B5 P5 Q5 O5
    refine hK.out _ _ ?s370 (fun hNew => ?r370)
    case s370 => exact ⟨O6.out.2.1, Q6.out.R.2.1⟩
    clear hK K hHeld
    have hHeld := hNew
    clear hNew
    refine wpAnyH_ready (rs := [17]) (by kernel_rfl) (by simp) ?_
    refine (acc rfl (fun K hK => ?_) AllReadyH.nil)
    ·skip
     go_simp
     with_reducible refine (C4.out _ Q6.out).mono ?_
     rintro q_ u7 ⟨rfl, hb⟩
     have B7 := Lib.hid (vianC HN.out B6.out hb)
     have P7 := Lib.hid (P6.out.below hb)
     have Q7 := Lib.hid (Q6.out.below hb)
     have O7 := Lib.hid (O6.out.below hb)
     clear hb B6 P6 Q6 O6
     refine hK.out _ _ ?s371 (fun hNew => ?r371)
     case s371 => exact ⟨O7.out.2.1, Q7.out.R.2.1⟩
     clear hK K hHeld
     have hHeld := hNew
     clear hNew
     refine tzz 18 ?_
     refine tzz 19 ?_
     refine tzz 20 ?_
     refine tzz 21 ?_
     refine tzz 23 ?_
     refine wpAnyH_ready (rs := [22]) (by kernel_rfl) (by simp) ?_
     refine (acc rfl (fun K hK => ?_) AllReadyH.nil)
     ·skip
      go_simp
      with_reducible refine (C5.out _ P7.out).mono ?_
      rintro q_ u8 ⟨rfl, hb⟩
      have B8 := Lib.hid (vianC HN.out B7.out hb)
      have P8 := Lib.hid (P7.out.below hb)
      have Q8 := Lib.hid (Q7.out.below hb)
      have O8 := Lib.hid (O7.out.below hb)
      clear hb B7 P7 Q7 O7
      refine hK.out _ _ ?s377 (fun hNew => ?r377)
      case s377 => exact ⟨O8.out.2.1, Q8.out.R.2.1⟩
      clear hK K hHeld
      have hHeld := hNew
      clear hNew
      refine wpAnyH_ready (rs := [24]) (by kernel_rfl) (by simp) ?_
      refine (acc rfl (fun K hK => ?_) AllReadyH.nil)
      ·skip
       go_simp
       with_reducible refine (C6.out _ Q8.out).mono ?_
       rintro q_ u9 ⟨rfl, hb⟩
       have B9 := Lib.hid (vianC HN.out B8.out hb)
       have P9 := Lib.hid (P8.out.below hb)
       have Q9 := Lib.hid (Q8.out.below hb)
       have O9 := Lib.hid (O8.out.below hb)
       clear hb B8 P8 Q8 O8
       refine hK.out _ _ ?s378 (fun hNew => ?r378)
       case s378 => exact ⟨O9.out.2.1, Q9.out.R.2.1⟩
       clear hK K hHeld
       have hHeld := hNew
       clear hNew
       refine tzz 25 ?_
       refine tzz 26 ?_
       refine tzz 27 ?_
       refine tzz 28 ?_
       refine tzz 30 ?_
       refine tzz 31 ?_
       refine tzz 32 ?_
       refine tzz 33 ?_
       refine wpAnyH_ready (rs := [29]) (by kernel_rfl) (by simp) ?_
       refine (acc rfl (fun K hK => ?_) AllReadyH.nil)
       ·skip
        go_simp
        with_reducible refine (line_u b _ L_ HL_.out bL.1 bL.2 _ P9.out).mono ?_
        rintro q_ u10 ⟨rfl, hb⟩
        subst hb
        have B10 := B9
        have P10 := P9
        have Q10 := Q9
        have O10 := O9
        clear B9 P9 Q9 O9
        refine hK.out _ _ ?s387 (fun hNew => ?r387)
        case s387 => exact ⟨O10.out.2.1, Q10.out.R.2.1⟩
        clear hK K hHeld
        have hHeld := hNew
        clear hNew
        refine tzz 34 ?_
        refine tzz 35 ?_
        refine tzz 36 ?_
        refine tzz 37 ?_
        refine tzz 39 ?_
        refine tzz 40 ?_
        refine tzz 41 ?_
        refine tzz 42 ?_
        refine wpAnyH_ready (rs := [38]) (by kernel_rfl) (by simp) ?_
        refine (acc rfl (fun K hK => ?_) AllReadyH.nil)
        ·skip
         go_simp
         with_reducible refine (dot_u b _ D_ HD_.out bD.1 bD.2 _ P10.out).mono ?_
         rintro q_ u11 ⟨rfl, hb⟩
         subst hb
         have B11 := B10
         have P11 := P10
         have Q11 := Q10
         have O11 := O10
         clear B10 P10 Q10 O10
         refine hK.out _ _ ?s396 (fun hNew => ?r396)
         case s396 => exact ⟨O11.out.2.1, Q11.out.R.2.1⟩
         clear hK K hHeld
         have hHeld := hNew
         clear hNew
         refine tzz 43 ?_
         refine tzz 44 ?_
         refine tzz 45 ?_
         refine tzz 46 ?_
         refine tzz 48 ?_
         refine tzz 49 ?_
         refine tzz 50 ?_
         refine tzz 51 ?_
         refine wpAnyH_ready (rs := [47]) (by kernel_rfl) (by simp) ?_
         refine (acc rfl (fun K hK => ?_) AllReadyH.nil)
         ·skip
          go_simp
          with_reducible refine (frames_u b _ F_ HF_.out bF.1 bF.2 _ P11.out).mono ?_
          rintro q_ u12 ⟨rfl, hb⟩
          subst hb
          have B12 := B11
          have P12 := P11
          have Q12 := Q11
          have O12 := O11
          clear B11 P11 Q11 O11
          refine hK.out _ _ ?s405 (fun hNew => ?r405)
          case s405 => exact ⟨O12.out.2.1, Q12.out.R.2.1⟩
          clear hK K hHeld
          have hHeld := hNew
          clear hNew
          refine tzz 52 ?_
          refine tzz 53 ?_
          refine tzz 54 ?_
          refine wpAnyH_done (by kernel_rfl) ?_ _
          clear hHeld
          obtain ⟨hcO, hfO⟩ := O12.out.out
          go_wp2
          all_goals exact bodyPost_ret (v := .bool true) (by simp [results, Try.results14, go_sem]) rfl ⟨rfl, P12.out, Q12.out, B12.out⟩
set_option maxHeartbeats 16000000 in
theorem do_3h (c_ : Nat) (A_ : Array Value) (n_ : Nat) (W0 : World) (b r v s : Nat) (NC_ : c_ ≠ b ∧ c_ ≠ r ∧ c_ ≠ v ∧ c_ ≠ s) (AP : Apart b r v s) (lb : n_ ≤ b) (lr : n_ ≤ r) (lv : n_ ≤ v) (ls : n_ ≤ s) (hn : n_ ≤ W0.heap.size) (m : M) (ok : Ok m) (N A X : Int) (bN : -9223372036854775808 ≤ N ∧ N ≤ 9223372036854775807) (bA : 0 ≤ A ∧ A < 65536) (bX : 0 ≤ X ∧ X < 256) (S : Value) (LN : Nat) (F : M) (hS : BsB n_ W0 S LN F) (hLN : LN ≤ 600) (h1 : 160 ≤ N) (w : World) (hP : Has w b (encU m)) (hQ : RU w r v s m) (hB : BelC c_ A_ n_ W0 w) : Calls Try.prog 14 #[.pointer (some ⟨b, 0, none⟩), .pointer (some ⟨r, 0, none⟩), .agg #[.int .i64 3, .int .i64 N, .int .u16 A, .int .u8 X, S]] w fun q_ w' => q_ = .returned (.bool true) ∧ Has w' b (encU (m)) ∧ RU w' r v s (m) ∧ BelC c_ A_ n_ W0 w' := by
 have HN := Lib.hid hn
 have NC := Lib.hid NC_
 clear NC_
 have LP := Lib.hid lb
 have LR := Lib.hid lr
 have LV := Lib.hid lv
 have LS := Lib.hid ls
 have NB := Lib.hid AP
 have OK := Lib.hid ok
 have HS := Lib.hid hS
 obtain ⟨u0, hu0⟩ : ∃ u0, u0 = w := ⟨_, rfl⟩
 rw [← hu0] at hP hQ hB ⊢
 have P0 := Lib.hid hP
 have Q0 := Lib.hid hQ
 have B0 := Lib.hid hB
 clear hn lb lr lv ls AP ok hS hP hQ hB hu0
 have q1 : 0 ≤ N := by omega
 have q2 : ¬ N < 160 := by omega
 have C7 := Lib.hid (show ∀ W, Has W b (encU m) → Calls Try.prog 28 #[.pointer (some ⟨b, 0, none⟩), .int .i64 N, .int .u8 X] W fun q_ w' => q_ = .returned (.tuple #[]) ∧ Has w' b (encU m) ∧ Keeps b W w' from fun W hW => spr_hi b m N bN.1 bN.2 X bX.1 bX.2 h1 W hW)
 go_enter Try.func14, Try.ntmps14
 have hnot : ∀ (x : Bool) (w : World), (Op.unary .not (.bool x)).run Try.prog w = .ok (.bool (!x)) w := fun _ _ => rfl
 have Q_ := own1 u0 (.cells #[.int .i64 3, .int .i64 N, .int .u16 A, .int .u8 X, S] 33)
 have B1 := Lib.hid (vianC HN.out B0.out Q_)
 have P1 := Lib.hid (P0.out.below Q_)
 have Q1 := Lib.hid (Q0.out.below Q_)
 have O1 := Lib.hid (Has.new u0 #[.int .i64 3, .int .i64 N, .int .u16 A, .int .u8 X, S] 33)
 have LO := Lib.hid (Nat.le_trans HN.out B0.out.size)
 have NOb := Lib.hid (Nat.ne_of_lt P0.out.1)
 have NOr := Lib.hid (Nat.ne_of_lt Q0.out.R.1)
 have NOv := Lib.hid (Nat.ne_of_lt Q0.out.V.1)
 have NOs := Lib.hid (Nat.ne_of_lt Q0.out.S.1)
 clear Q_
 go_upto_region 1 with (fail)
 generalize u0.alloc (.cells #[.int .i64 3, .int .i64 N, .int .u16 A, .int .u8 X, S] 33) = u1 at B1 P1 Q1 O1 ⊢
 generalize u0.heap.size = ob at O1 LO NOb NOr NOv NOs ⊢
 clear B0 P0 Q0
 obtain ⟨hcO, hfO⟩ := O1.out.out
 go_wp2_with (fail)
 with_reducible refine (C7.out _ P1.out).mono ?_
 rintro q_ u2 ⟨rfl, hP, hk⟩
 have P2 := Lib.hid hP
 have B2 := Lib.hid (hk.belowC HN.out LP.out NC.out.1 B1.out)
 have Q2 := Lib.hid (Q1.out.other hk NB.out.r NB.out.v NB.out.s)
 have O2 := Lib.hid (hk.has (Ne.symm NOb.out) O1.out)
 clear hP hk B1 P1 Q1 O1
 clear hcO hfO
 obtain ⟨hcO, hfO⟩ := O2.out.out
 go_upto_region 22 with (fail)
 obtain ⟨L_, hL_⟩ : ∃ x, x = (m) 8356 := ⟨_, rfl⟩
 obtain ⟨D_, hD_⟩ : ∃ x, x = (m) 8363 := ⟨_, rfl⟩
 obtain ⟨F_, hF_⟩ : ∃ x, x = (m) 8365 := ⟨_, rfl⟩
 have bL := (OK.out).byte 8356 (by decide) (by decide)
 have bD := (OK.out).byte 8363 (by decide) (by decide)
 have bF := (OK.out).fr
 rw [← hL_] at bL
 rw [← hD_] at bD
 rw [← hF_] at bF
 have HL_ := Lib.hid hL_.symm
 have HD_ := Lib.hid hD_.symm
 have HF_ := Lib.hid hF_.symm
 clear hL_ hD_ hF_
 obtain ⟨ra, hra⟩ : ∃ x, x = readM (m) A := ⟨_, rfl⟩
 obtain ⟨pa, hpa⟩ : ∃ x, x = peekM (m) A := ⟨_, rfl⟩
 obtain ⟨rs, hrs⟩ : ∃ x, x = readM (m) 65345 := ⟨_, rfl⟩
 have C1 := Lib.hid (show ∀ W, Has W b (encU (m)) → Calls Try.prog 26 #[.pointer (some ⟨b, 0, none⟩), .int .u16 A] W fun q_ w' => q_ = .returned (.int .u8 ra) ∧ Below W.heap.size W w' from fun W hW => by
  rw [hra]
  exact read_c b _ (OK.out) A bA.1 bA.2 W hW)
 have C2 := Lib.hid (show ∀ W, RU W r v s (m) → Calls Try.prog 32 #[.pointer (some ⟨r, 0, none⟩), .int .u16 A] W fun q_ w' => q_ = .returned (.int .u8 ra) ∧ Below W.heap.size W w' from fun W hW => by
  rw [hra]
  exact rread_c r v s _ (OK.out) A bA.1 bA.2 W hW)
 have C3 := Lib.hid (show ∀ W, Has W b (encU (m)) → Calls Try.prog 27 #[.pointer (some ⟨b, 0, none⟩), .int .u16 A] W fun q_ w' => q_ = .returned (.int .u8 pa) ∧ Below W.heap.size W w' from fun W hW => by
  rw [hpa]
  exact peek_c b _ (OK.out) A bA.1 bA.2 W hW)
 have C4 := Lib.hid (show ∀ W, RU W r v s (m) → Calls Try.prog 33 #[.pointer (some ⟨r, 0, none⟩), .int .u16 A] W fun q_ w' => q_ = .returned (.int .u8 pa) ∧ Below W.heap.size W w' from fun W hW => by
  rw [hpa]
  exact rpeek_c r v s _ (OK.out) A bA.1 bA.2 W hW)
 have C5 := Lib.hid (show ∀ W, Has W b (encU (m)) → Calls Try.prog 26 #[.pointer (some ⟨b, 0, none⟩), .int .u16 65345] W fun q_ w' => q_ = .returned (.int .u8 rs) ∧ Below W.heap.size W w' from fun W hW => by
  rw [hrs]
  exact read_c b _ (OK.out) 65345 (by decide) (by decide) W hW)
 have C6 := Lib.hid (show ∀ W, RU W r v s (m) → Calls Try.prog 32 #[.pointer (some ⟨r, 0, none⟩), .int .u16 65345] W fun q_ w' => q_ = .returned (.int .u8 rs) ∧ Below W.heap.size W w' from fun W hW => by
  rw [hrs]
  exact rread_c r v s _ (OK.out) 65345 (by decide) (by decide) W hW)
 clear hra hpa hrs
 have e_L := rc_i v s (m) 14 L_ (by decide) (by decide) HL_.out
 have e_d := rc_i v s (m) 15 D_ (by decide) (by decide) HD_.out
 have e_fr := rc_i v s (m) 17 F_ (by decide) (by decide) HF_.out
 clear hcO hfO
 have B3 := Lib.hid B2.out.drew
 have P3 := Lib.hid P2.out.drew
 have Q3 := Lib.hid Q2.out.drew
 have O3 := Lib.hid O2.out.drew
 clear B2 P2 Q2 O2
 refine wp_region_held_drew (S := (fun w' => (∀ o, w'.cell? ⟨ob, o, none⟩ = (#[.int .i64 3, .int .i64 N, .int .u16 A, .int .u8 X, S] : Array Value)[o]?) ∧ (∀ o, w'.cell? ⟨r, o, none⟩ = (encR v s (m))[o]?))) (by kernel_rfl) ⟨O3.out.2.1, Q3.out.R.2.1⟩ (fun hHeld => ?_)
 generalize World.drew _ = u3 at hHeld B3 P3 Q3 O3 ⊢
 refine tzz 0 ?_
 refine tzz 1 ?_
 refine tzz 2 ?_
 refine tzz 4 ?_
 refine tzz 5 ?_
 refine tzz 6 ?_
 refine wpAnyH_ready (rs := [3]) (by kernel_rfl) (by simp) ?_
 refine (acc rfl (fun K hK => ?_) AllReadyH.nil)
 ·skip
  go_simp
  with_reducible refine (C1.out _ P3.out).mono ?_
  rintro q_ u4 ⟨rfl, hb⟩
  have B4 := Lib.hid (vianC HN.out B3.out hb)
  have P4 := Lib.hid (P3.out.below hb)
  have Q4 := Lib.hid (Q3.out.below hb)
  have O4 := Lib.hid (O3.out.below hb)
  clear hb B3 P3 Q3 O3
  refine hK.out _ _ ?s415 (fun hNew => ?r415)
  case s415 => exact ⟨O4.out.2.1, Q4.out.R.2.1⟩
  clear hK K hHeld
  have hHeld := hNew
  clear hNew
  refine wpAnyH_ready (rs := [7]) (by kernel_rfl) (by simp) ?_
  refine (acc rfl (fun K hK => ?_) AllReadyH.nil)
  ·skip
   go_simp
   with_reducible refine (C2.out _ Q4.out).mono ?_
   rintro q_ u5 ⟨rfl, hb⟩
   have B5 := Lib.hid (vianC HN.out B4.out hb)
   have P5 := Lib.hid (P4.out.below hb)
   have Q5 := Lib.hid (Q4.out.below hb)
   have O5 := Lib.hid (O4.out.below hb)
   clear hb B4 P4 Q4 O4
   refine hK.out _ _ ?s416 (fun hNew => ?r416)
   case s416 => exact ⟨O5.out.2.1, Q5.out.R.2.1⟩
   clear hK K hHeld
   have hHeld := hNew
   clear hNew
   refine tzz 8 ?_
   refine tzz 9 ?_
   refine tzz 10 ?_
   refine tzz 11 ?_
   refine tzz 12 ?_
   refine tzz 14 ?_
   refine tzz 15 ?_
   refine tzz 16 ?_
   refine wpAnyH_ready (rs := [13]) (by kernel_rfl) (by simp) ?_
   refine (acc rfl (fun K hK => ?_) AllReadyH.nil)
   ·skip
    go_simp
    with_reducible refine (C3.out _ P5.out).mono ?_
    rintro q_ u6 ⟨rfl, hb⟩
    have B6 := Lib.hid (vianC HN.out B5.out hb)
    have P6 := Lib.hid (P5.out.below hb)
    have Q6 := Lib.hid (Q5.out.below hb)
    have O6 := Lib.hid (O5.out.below hb)
    clear hb B5 P5 Q5 O5
    refine hK.out _ _ ?s425 (fun hNew => ?r425)
    case s425 => exact ⟨O6.out.2.1, Q6.out.R.2.1⟩
    clear hK K hHeld
    have hHeld := hNew
    clear hNew
    refine wpAnyH_ready (rs := [17]) (by kernel_rfl) (by simp) ?_
    refine (acc rfl (fun K hK => ?_) AllReadyH.nil)
    ·skip
     go_simp
     with_reducible refine (C4.out _ Q6.out).mono ?_
     rintro q_ u7 ⟨rfl, hb⟩
     have B7 := Lib.hid (vianC HN.out B6.out hb)
     have P7 := Lib.hid (P6.out.below hb)
     have Q7 := Lib.hid (Q6.out.below hb)
     have O7 := Lib.hid (O6.out.below hb)
     clear hb B6 P6 Q6 O6
     refine hK.out _ _ ?s426 (fun hNew => ?r426)
     case s426 => exact ⟨O7.out.2.1, Q7.out.R.2.1⟩
     clear hK K hHeld
     have hHeld := hNew
     clear hNew
     refine tzz 18 ?_
     refine tzz 19 ?_
     refine tzz 20 ?_
     refine tzz 21 ?_
     refine tzz 23 ?_
     refine wpAnyH_ready (rs := [22]) (by kernel_rfl) (by simp) ?_
     refine (acc rfl (fun K hK => ?_) AllReadyH.nil)
     ·skip
      go_simp
      with_reducible refine (C5.out _ P7.out).mono ?_
      rintro q_ u8 ⟨rfl, hb⟩
      have B8 := Lib.hid (vianC HN.out B7.out hb)
      have P8 := Lib.hid (P7.out.below hb)
      have Q8 := Lib.hid (Q7.out.below hb)
      have O8 := Lib.hid (O7.out.below hb)
      clear hb B7 P7 Q7 O7
      refine hK.out _ _ ?s432 (fun hNew => ?r432)
      case s432 => exact ⟨O8.out.2.1, Q8.out.R.2.1⟩
      clear hK K hHeld
      have hHeld := hNew
      clear hNew
      refine wpAnyH_ready (rs := [24]) (by kernel_rfl) (by simp) ?_
      refine (acc rfl (fun K hK => ?_) AllReadyH.nil)
      ·skip
       go_simp
       with_reducible refine (C6.out _ Q8.out).mono ?_
       rintro q_ u9 ⟨rfl, hb⟩
       have B9 := Lib.hid (vianC HN.out B8.out hb)
       have P9 := Lib.hid (P8.out.below hb)
       have Q9 := Lib.hid (Q8.out.below hb)
       have O9 := Lib.hid (O8.out.below hb)
       clear hb B8 P8 Q8 O8
       refine hK.out _ _ ?s433 (fun hNew => ?r433)
       case s433 => exact ⟨O9.out.2.1, Q9.out.R.2.1⟩
       clear hK K hHeld
       have hHeld := hNew
       clear hNew
       refine tzz 25 ?_
       refine tzz 26 ?_
       refine tzz 27 ?_
       refine tzz 28 ?_
       refine tzz 30 ?_
       refine tzz 31 ?_
       refine tzz 32 ?_
       refine tzz 33 ?_
       refine wpAnyH_ready (rs := [29]) (by kernel_rfl) (by simp) ?_
       refine (acc rfl (fun K hK => ?_) AllReadyH.nil)
       ·skip
        go_simp
        with_reducible refine (line_u b _ L_ HL_.out bL.1 bL.2 _ P9.out).mono ?_
        rintro q_ u10 ⟨rfl, hb⟩
        subst hb
        have B10 := B9
        have P10 := P9
        have Q10 := Q9
        have O10 := O9
        clear B9 P9 Q9 O9
        refine hK.out _ _ ?s442 (fun hNew => ?r442)
        case s442 => exact ⟨O10.out.2.1, Q10.out.R.2.1⟩
        clear hK K hHeld
        have hHeld := hNew
        clear hNew
        refine tzz 34 ?_
        refine tzz 35 ?_
        refine tzz 36 ?_
        refine tzz 37 ?_
        refine tzz 39 ?_
        refine tzz 40 ?_
        refine tzz 41 ?_
        refine tzz 42 ?_
        refine wpAnyH_ready (rs := [38]) (by kernel_rfl) (by simp) ?_
        refine (acc rfl (fun K hK => ?_) AllReadyH.nil)
        ·skip
         go_simp
         with_reducible refine (dot_u b _ D_ HD_.out bD.1 bD.2 _ P10.out).mono ?_
         rintro q_ u11 ⟨rfl, hb⟩
         subst hb
         have B11 := B10
         have P11 := P10
         have Q11 := Q10
         have O11 := O10
         clear B10 P10 Q10 O10
         refine hK.out _ _ ?s451 (fun hNew => ?r451)
         case s451 => exact ⟨O11.out.2.1, Q11.out.R.2.1⟩
         clear hK K hHeld
         have hHeld := hNew
         clear hNew
         refine tzz 43 ?_
         refine tzz 44 ?_
         refine tzz 45 ?_
         refine tzz 46 ?_
         refine tzz 48 ?_
         refine tzz 49 ?_
         refine tzz 50 ?_
         refine tzz 51 ?_
         refine wpAnyH_ready (rs := [47]) (by kernel_rfl) (by simp) ?_
         refine (acc rfl (fun K hK => ?_) AllReadyH.nil)
         ·skip
          go_simp
          with_reducible refine (frames_u b _ F_ HF_.out bF.1 bF.2 _ P11.out).mono ?_
          rintro q_ u12 ⟨rfl, hb⟩
          subst hb
          have B12 := B11
          have P12 := P11
          have Q12 := Q11
          have O12 := O11
          clear B11 P11 Q11 O11
          refine hK.out _ _ ?s460 (fun hNew => ?r460)
          case s460 => exact ⟨O12.out.2.1, Q12.out.R.2.1⟩
          clear hK K hHeld
          have hHeld := hNew
          clear hNew
          refine tzz 52 ?_
          refine tzz 53 ?_
          refine tzz 54 ?_
          refine wpAnyH_done (by kernel_rfl) ?_ _
          clear hHeld
          obtain ⟨hcO, hfO⟩ := O12.out.out
          go_wp2
          all_goals exact bodyPost_ret (v := .bool true) (by simp [results, Try.results14, go_sem]) rfl ⟨rfl, P12.out, Q12.out, B12.out⟩
end Go.Proofs.Ytpfbodmadmneiaa
