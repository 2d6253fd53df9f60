/-
 A call of a law on both units side by side: bytes that are written: for every unit as it can be; no other condition but that each number fits.
-/
import Derived.Test.YtpfbodmadmneiaaTz
import Derived.Test.YtpfbodmadmneiaaDcK
import Derived.Test.YtpfbodmadmneiaaAw
import Derived.Deep.Cut
import Derived.BigQuiet
import Derived.WalkSmall
import Derived.Deep.LoopGhost
import Derived.Deep.DeepCutAuto
import Derived.Deep.CutBlock
namespace Go.Proofs.Ytpfbodmadmneiaa
open Go.ChangeShapes Go.WideShapes Go.ChangeAt Go.RowKit
set_option linter.unusedVariables false
set_option linter.unusedSimpArgs false
set_option maxRecDepth 100000
set_option maxHeartbeats 16000000 in
theorem do_4z (c_ : Nat) (A_ : Array Value) (n_ : Nat) (W0 : World) (b r v s : Nat) (NC_ : c_ ≠ b ∧ c_ ≠ r ∧ c_ ≠ v ∧ c_ ≠ s) (AP : Apart b r v s) (lb : n_ ≤ b) (lr : n_ ≤ r) (lv : n_ ≤ v) (ls : n_ ≤ s) (hn : n_ ≤ W0.heap.size) (m : M) (ok : Ok m) (N A X : Int) (bN : -9223372036854775808 ≤ N ∧ N ≤ 9223372036854775807) (bA : 0 ≤ A ∧ A < 65536) (bX : 0 ≤ X ∧ X < 256) (S : Value) (LN : Nat) (F : M) (hS : BsB n_ W0 S LN F) (hLN : LN ≤ 600) (a : Option Addr) (c : Nat) (eS : S = .slice a LN c) (e0 : LN = 0) (w : World) (hP : Has w b (encU m)) (hQ : RU w r v s m) (hB : BelC c_ A_ n_ W0 w) : Calls Try.prog 14 #[.pointer (some ⟨b, 0, none⟩), .pointer (some ⟨r, 0, none⟩), .agg #[.int .i64 4, .int .i64 N, .int .u16 A, .int .u8 X, S]] w fun q_ w' => q_ = .returned (.bool true) ∧ Has w' b (encU (wrsM A F LN m)) ∧ RU w' r v s (wrsM A F LN m) ∧ BelC c_ A_ n_ W0 w' := by
 have HN := Lib.hid hn
 have NC := Lib.hid NC_
 clear NC_
 have LP := Lib.hid lb
 have LR := Lib.hid lr
 have LV := Lib.hid lv
 have LS := Lib.hid ls
 have NB := Lib.hid AP
 have OK := Lib.hid ok
 have HS := Lib.hid hS
 obtain ⟨u0, hu0⟩ : ∃ u0, u0 = w := ⟨_, rfl⟩
 rw [← hu0] at hP hQ hB ⊢
 have P0 := Lib.hid hP
 have Q0 := Lib.hid hQ
 have B0 := Lib.hid hB
 clear hn lb lr lv ls AP ok hS hP hQ hB hu0
 subst eS
 subst e0
 go_enter Try.func14, Try.ntmps14
 have hnot : ∀ (x : Bool) (w : World), (Op.unary .not (.bool x)).run Try.prog w = .ok (.bool (!x)) w := fun _ _ => rfl
 have Q_ := own1 u0 (.cells #[.int .i64 4, .int .i64 N, .int .u16 A, .int .u8 X, .slice a 0 c] 33)
 have B1 := Lib.hid (vianC HN.out B0.out Q_)
 have P1 := Lib.hid (P0.out.below Q_)
 have Q1 := Lib.hid (Q0.out.below Q_)
 have O1 := Lib.hid (Has.new u0 #[.int .i64 4, .int .i64 N, .int .u16 A, .int .u8 X, .slice a 0 c] 33)
 have LO := Lib.hid (Nat.le_trans HN.out B0.out.size)
 have NOb := Lib.hid (Nat.ne_of_lt P0.out.1)
 have NOr := Lib.hid (Nat.ne_of_lt Q0.out.R.1)
 have NOv := Lib.hid (Nat.ne_of_lt Q0.out.V.1)
 have NOs := Lib.hid (Nat.ne_of_lt Q0.out.S.1)
 clear Q_
 go_upto_region 1 with (fail)
 generalize u0.alloc (.cells #[.int .i64 4, .int .i64 N, .int .u16 A, .int .u8 X, .slice a 0 c] 33) = u1 at B1 P1 Q1 O1 ⊢
 generalize u0.heap.size = ob at O1 LO NOb NOr NOv NOs ⊢
 clear B0 P0 Q0
 obtain ⟨hcO, hfO⟩ := O1.out.out
 go_wp2
 clear hcO hfO
 go_loopg [76] 0 (fun g' i wr => ∃ (t : Nat), t ≤ 0 ∧ g' + t = 0 ∧ i = .int .i64 t ∧ BelC c_ A_ n_ W0 wr ∧ Has wr b (encU (wrsM A F t m)) ∧ RU wr r v s (wrsM A F t m) ∧ Has wr ob #[.int .i64 4, .int .i64 N, .int .u16 A, .int .u8 X, .slice a 0 c])
 case atStart => exact ⟨0, by omega, by omega, rfl, B1.out, by have := P1.out; rwa [wrs_zero], by have := Q1.out; rwa [wrs_zero], O1.out⟩
 case round =>
  obtain ⟨t, ht, hg, rfl, hB, hP, hQ, hO⟩ := hrel
  have TG := Lib.hid hg
  clear hg
  have B2 := Lib.hid hB
  clear hB
  have P2 := Lib.hid hP
  clear hP
  have Q2 := Lib.hid hQ
  clear hQ
  have O2 := Lib.hid hO
  clear hO
  clear B1 P1 Q1 O1
  obtain ⟨u2, hu⟩ : ∃ q_, q_ = wr := ⟨_, rfl⟩
  subst hu
  have hlt : ¬ t < 0 := by omega
  obtain rfl : 0 = t := by omega
  clear TG
  obtain ⟨hcO, hfO⟩ := O2.out.out
  go_upto_region 22 with (fail)
  obtain ⟨L_, hL_⟩ : ∃ x, x = (wrsM A F 0 m) 8356 := ⟨_, rfl⟩
  obtain ⟨D_, hD_⟩ : ∃ x, x = (wrsM A F 0 m) 8363 := ⟨_, rfl⟩
  obtain ⟨F_, hF_⟩ : ∃ x, x = (wrsM A F 0 m) 8365 := ⟨_, rfl⟩
  have bL := ((show Ok (wrsM A F 0 m) by rw [wrs_zero]; exact OK.out)).byte 8356 (by decide) (by decide)
  have bD := ((show Ok (wrsM A F 0 m) by rw [wrs_zero]; exact OK.out)).byte 8363 (by decide) (by decide)
  have bF := ((show Ok (wrsM A F 0 m) by rw [wrs_zero]; exact OK.out)).fr
  rw [← hL_] at bL
  rw [← hD_] at bD
  rw [← hF_] at bF
  have HL_ := Lib.hid hL_.symm
  have HD_ := Lib.hid hD_.symm
  have HF_ := Lib.hid hF_.symm
  clear hL_ hD_ hF_
  obtain ⟨ra, hra⟩ : ∃ x, x = readM (wrsM A F 0 m) A := ⟨_, rfl⟩
  obtain ⟨pa, hpa⟩ : ∃ x, x = peekM (wrsM A F 0 m) A := ⟨_, rfl⟩
  obtain ⟨rs, hrs⟩ : ∃ x, x = readM (wrsM A F 0 m) 65345 := ⟨_, rfl⟩
  have C1 := Lib.hid (show ∀ W, Has W b (encU (wrsM A F 0 m)) → Calls Try.prog 26 #[.pointer (some ⟨b, 0, none⟩), .int .u16 A] W fun q_ w' => q_ = .returned (.int .u8 ra) ∧ Below W.heap.size W w' from fun W hW => by
   rw [hra]
   exact read_c b _ ((show Ok (wrsM A F 0 m) by rw [wrs_zero]; exact OK.out)) A bA.1 bA.2 W hW)
  have C2 := Lib.hid (show ∀ W, RU W r v s (wrsM A F 0 m) → Calls Try.prog 32 #[.pointer (some ⟨r, 0, none⟩), .int .u16 A] W fun q_ w' => q_ = .returned (.int .u8 ra) ∧ Below W.heap.size W w' from fun W hW => by
   rw [hra]
   exact rread_c r v s _ ((show Ok (wrsM A F 0 m) by rw [wrs_zero]; exact OK.out)) A bA.1 bA.2 W hW)
  have C3 := Lib.hid (show ∀ W, Has W b (encU (wrsM A F 0 m)) → Calls Try.prog 27 #[.pointer (some ⟨b, 0, none⟩), .int .u16 A] W fun q_ w' => q_ = .returned (.int .u8 pa) ∧ Below W.heap.size W w' from fun W hW => by
   rw [hpa]
   exact peek_c b _ ((show Ok (wrsM A F 0 m) by rw [wrs_zero]; exact OK.out)) A bA.1 bA.2 W hW)
  have C4 := Lib.hid (show ∀ W, RU W r v s (wrsM A F 0 m) → Calls Try.prog 33 #[.pointer (some ⟨r, 0, none⟩), .int .u16 A] W fun q_ w' => q_ = .returned (.int .u8 pa) ∧ Below W.heap.size W w' from fun W hW => by
   rw [hpa]
   exact rpeek_c r v s _ ((show Ok (wrsM A F 0 m) by rw [wrs_zero]; exact OK.out)) A bA.1 bA.2 W hW)
  have C5 := Lib.hid (show ∀ W, Has W b (encU (wrsM A F 0 m)) → Calls Try.prog 26 #[.pointer (some ⟨b, 0, none⟩), .int .u16 65345] W fun q_ w' => q_ = .returned (.int .u8 rs) ∧ Below W.heap.size W w' from fun W hW => by
   rw [hrs]
   exact read_c b _ ((show Ok (wrsM A F 0 m) by rw [wrs_zero]; exact OK.out)) 65345 (by decide) (by decide) W hW)
  have C6 := Lib.hid (show ∀ W, RU W r v s (wrsM A F 0 m) → Calls Try.prog 32 #[.pointer (some ⟨r, 0, none⟩), .int .u16 65345] W fun q_ w' => q_ = .returned (.int .u8 rs) ∧ Below W.heap.size W w' from fun W hW => by
   rw [hrs]
   exact rread_c r v s _ ((show Ok (wrsM A F 0 m) by rw [wrs_zero]; exact OK.out)) 65345 (by decide) (by decide) W hW)
  clear hra hpa hrs
  have e_L := rc_i v s (wrsM A F 0 m) 14 L_ (by decide) (by decide) HL_.out
  have e_d := rc_i v s (wrsM A F 0 m) 15 D_ (by decide) (by decide) HD_.out
  have e_fr := rc_i v s (wrsM A F 0 m) 17 F_ (by decide) (by decide) HF_.out
  clear hcO hfO
  have B3 := Lib.hid B2.out.drew
  have P3 := Lib.hid P2.out.drew
  have Q3 := Lib.hid Q2.out.drew
  have O3 := Lib.hid O2.out.drew
  clear B2 P2 Q2 O2
  refine wp_region_held_drew (S := (fun w' => (∀ o, w'.cell? ⟨ob, o, none⟩ = (#[.int .i64 4, .int .i64 N, .int .u16 A, .int .u8 X, .slice a 0 c] : Array Value)[o]?) ∧ (∀ o, w'.cell? ⟨r, o, none⟩ = (encR v s (wrsM A F 0 m))[o]?))) (by kernel_rfl) ⟨O3.out.2.1, Q3.out.R.2.1⟩ (fun hHeld => ?_)
  generalize World.drew _ = u3 at hHeld B3 P3 Q3 O3 ⊢
  refine tzz 0 ?_
  refine tzz 1 ?_
  refine tzz 2 ?_
  refine tzz 4 ?_
  refine tzz 5 ?_
  refine tzz 6 ?_
  refine wpAnyH_ready (rs := [3]) (by kernel_rfl) (by simp) ?_
  refine (acc rfl (fun K hK => ?_) AllReadyH.nil)
  ·skip
   go_simp
   with_reducible refine (C1.out _ P3.out).mono ?_
   rintro q_ u4 ⟨rfl, hb⟩
   have B4 := Lib.hid (vianC HN.out B3.out hb)
   have P4 := Lib.hid (P3.out.below hb)
   have Q4 := Lib.hid (Q3.out.below hb)
   have O4 := Lib.hid (O3.out.below hb)
   clear hb B3 P3 Q3 O3
   refine hK.out _ _ ?s470 (fun hNew => ?r470)
   case s470 => exact ⟨O4.out.2.1, Q4.out.R.2.1⟩
   clear hK K hHeld
   have hHeld := hNew
   clear hNew
   refine wpAnyH_ready (rs := [7]) (by kernel_rfl) (by simp) ?_
   refine (acc rfl (fun K hK => ?_) AllReadyH.nil)
   ·skip
    go_simp
    with_reducible refine (C2.out _ Q4.out).mono ?_
    rintro q_ u5 ⟨rfl, hb⟩
    have B5 := Lib.hid (vianC HN.out B4.out hb)
    have P5 := Lib.hid (P4.out.below hb)
    have Q5 := Lib.hid (Q4.out.below hb)
    have O5 := Lib.hid (O4.out.below hb)
    clear hb B4 P4 Q4 O4
    refine hK.out _ _ ?s471 (fun hNew => ?r471)
    case s471 => exact ⟨O5.out.2.1, Q5.out.R.2.1⟩
    clear hK K hHeld
    have hHeld := hNew
    clear hNew
    refine tzz 8 ?_
    refine tzz 9 ?_
    refine tzz 10 ?_
    refine tzz 11 ?_
    refine tzz 12 ?_
    refine tzz 14 ?_
    refine tzz 15 ?_
    refine tzz 16 ?_
    refine wpAnyH_ready (rs := [13]) (by kernel_rfl) (by simp) ?_
    refine (acc rfl (fun K hK => ?_) AllReadyH.nil)
    ·skip
     go_simp
     with_reducible refine (C3.out _ P5.out).mono ?_
     rintro q_ u6 ⟨rfl, hb⟩
     have B6 := Lib.hid (vianC HN.out B5.out hb)
     have P6 := Lib.hid (P5.out.below hb)
     have Q6 := Lib.hid (Q5.out.below hb)
     have O6 := Lib.hid (O5.out.below hb)
     clear hb B5 P5 Q5 O5
     refine hK.out _ _ ?s480 (fun hNew => ?r480)
     case s480 => exact ⟨O6.out.2.1, Q6.out.R.2.1⟩
     clear hK K hHeld
     have hHeld := hNew
     clear hNew
     refine wpAnyH_ready (rs := [17]) (by kernel_rfl) (by simp) ?_
     refine (acc rfl (fun K hK => ?_) AllReadyH.nil)
     ·skip
      go_simp
      with_reducible refine (C4.out _ Q6.out).mono ?_
      rintro q_ u7 ⟨rfl, hb⟩
      have B7 := Lib.hid (vianC HN.out B6.out hb)
      have P7 := Lib.hid (P6.out.below hb)
      have Q7 := Lib.hid (Q6.out.below hb)
      have O7 := Lib.hid (O6.out.below hb)
      clear hb B6 P6 Q6 O6
      refine hK.out _ _ ?s481 (fun hNew => ?r481)
      case s481 => exact ⟨O7.out.2.1, Q7.out.R.2.1⟩
      clear hK K hHeld
      have hHeld := hNew
      clear hNew
      refine tzz 18 ?_
      refine tzz 19 ?_
      refine tzz 20 ?_
      refine tzz 21 ?_
      refine tzz 23 ?_
      refine wpAnyH_ready (rs := [22]) (by kernel_rfl) (by simp) ?_
      refine (acc rfl (fun K hK => ?_) AllReadyH.nil)
      ·skip
       go_simp
       with_reducible refine (C5.out _ P7.out).mono ?_
       rintro q_ u8 ⟨rfl, hb⟩
       have B8 := Lib.hid (vianC HN.out B7.out hb)
       have P8 := Lib.hid (P7.out.below hb)
       have Q8 := Lib.hid (Q7.out.below hb)
       have O8 := Lib.hid (O7.out.below hb)
       clear hb B7 P7 Q7 O7
       refine hK.out _ _ ?s487 (fun hNew => ?r487)
       case s487 => exact ⟨O8.out.2.1, Q8.out.R.2.1⟩
       clear hK K hHeld
       have hHeld := hNew
       clear hNew
       refine wpAnyH_ready (rs := [24]) (by kernel_rfl) (by simp) ?_
       refine (acc rfl (fun K hK => ?_) AllReadyH.nil)
       ·skip
        go_simp
        with_reducible refine (C6.out _ Q8.out).mono ?_
        rintro q_ u9 ⟨rfl, hb⟩
        have B9 := Lib.hid (vianC HN.out B8.out hb)
        have P9 := Lib.hid (P8.out.below hb)
        have Q9 := Lib.hid (Q8.out.below hb)
        have O9 := Lib.hid (O8.out.below hb)
        clear hb B8 P8 Q8 O8
        refine hK.out _ _ ?s488 (fun hNew => ?r488)
        case s488 => exact ⟨O9.out.2.1, Q9.out.R.2.1⟩
        clear hK K hHeld
        have hHeld := hNew
        clear hNew
        refine tzz 25 ?_
        refine tzz 26 ?_
        refine tzz 27 ?_
        refine tzz 28 ?_
        refine tzz 30 ?_
        refine tzz 31 ?_
        refine tzz 32 ?_
        refine tzz 33 ?_
        refine wpAnyH_ready (rs := [29]) (by kernel_rfl) (by simp) ?_
        refine (acc rfl (fun K hK => ?_) AllReadyH.nil)
        ·skip
         go_simp
         with_reducible refine (line_u b _ L_ HL_.out bL.1 bL.2 _ P9.out).mono ?_
         rintro q_ u10 ⟨rfl, hb⟩
         subst hb
         have B10 := B9
         have P10 := P9
         have Q10 := Q9
         have O10 := O9
         clear B9 P9 Q9 O9
         refine hK.out _ _ ?s497 (fun hNew => ?r497)
         case s497 => exact ⟨O10.out.2.1, Q10.out.R.2.1⟩
         clear hK K hHeld
         have hHeld := hNew
         clear hNew
         refine tzz 34 ?_
         refine tzz 35 ?_
         refine tzz 36 ?_
         refine tzz 37 ?_
         refine tzz 39 ?_
         refine tzz 40 ?_
         refine tzz 41 ?_
         refine tzz 42 ?_
         refine wpAnyH_ready (rs := [38]) (by kernel_rfl) (by simp) ?_
         refine (acc rfl (fun K hK => ?_) AllReadyH.nil)
         ·skip
          go_simp
          with_reducible refine (dot_u b _ D_ HD_.out bD.1 bD.2 _ P10.out).mono ?_
          rintro q_ u11 ⟨rfl, hb⟩
          subst hb
          have B11 := B10
          have P11 := P10
          have Q11 := Q10
          have O11 := O10
          clear B10 P10 Q10 O10
          refine hK.out _ _ ?s506 (fun hNew => ?r506)
          case s506 => exact ⟨O11.out.2.1, Q11.out.R.2.1⟩
          clear hK K hHeld
          have hHeld := hNew
          clear hNew
          refine tzz 43 ?_
          refine tzz 44 ?_
          refine tzz 45 ?_
          refine tzz 46 ?_
          refine tzz 48 ?_
          refine tzz 49 ?_
          refine tzz 50 ?_
          refine tzz 51 ?_
          refine wpAnyH_ready (rs := [47]) (by kernel_rfl) (by simp) ?_
          refine (acc rfl (fun K hK => ?_) AllReadyH.nil)
          ·skip
           go_simp
           with_reducible refine (frames_u b _ F_ HF_.out bF.1 bF.2 _ P11.out).mono ?_
           rintro q_ u12 ⟨rfl, hb⟩
           subst hb
           have B12 := B11
           have P12 := P11
           have Q12 := Q11
           have O12 := O11
           clear B11 P11 Q11 O11
           refine hK.out _ _ ?s515 (fun hNew => ?r515)
           case s515 => exact ⟨O12.out.2.1, Q12.out.R.2.1⟩
           clear hK K hHeld
           have hHeld := hNew
           clear hNew
           refine tzz 52 ?_
           refine tzz 53 ?_
           refine tzz 54 ?_
           refine wpAnyH_done (by kernel_rfl) ?_ _
           clear hHeld
           obtain ⟨hcO, hfO⟩ := O12.out.out
           go_wp2
           all_goals exact bodyPost_ret (v := .bool true) (by simp [results, Try.results14, go_sem]) rfl ⟨rfl, P12.out, Q12.out, B12.out⟩
set_option maxHeartbeats 16000000 in
theorem do_4 (c_ : Nat) (A_ : Array Value) (n_ : Nat) (W0 : World) (b r v s : Nat) (NC_ : c_ ≠ b ∧ c_ ≠ r ∧ c_ ≠ v ∧ c_ ≠ s) (AP : Apart b r v s) (lb : n_ ≤ b) (lr : n_ ≤ r) (lv : n_ ≤ v) (ls : n_ ≤ s) (hn : n_ ≤ W0.heap.size) (m : M) (ok : Ok m) (N A X : Int) (bN : -9223372036854775808 ≤ N ∧ N ≤ 9223372036854775807) (bA : 0 ≤ A ∧ A < 65536) (bX : 0 ≤ X ∧ X < 256) (S : Value) (LN : Nat) (F : M) (hS : BsB n_ W0 S LN F) (hLN : LN ≤ 600) (sb so c : Nat) (eS : S = .slice (some ⟨sb, so, none⟩) LN c) (e0 : 0 < LN) (okF : okB F) (hsb : sb < n_) (hc : ∀ j, j < LN → W0.cell? ⟨sb, so + j, none⟩ = some (.int .u8 (F j))) (w : World) (hP : Has w b (encU m)) (hQ : RU w r v s m) (hB : BelC c_ A_ n_ W0 w) : Calls Try.prog 14 #[.pointer (some ⟨b, 0, none⟩), .pointer (some ⟨r, 0, none⟩), .agg #[.int .i64 4, .int .i64 N, .int .u16 A, .int .u8 X, S]] w fun q_ w' => q_ = .returned (.bool true) ∧ Has w' b (encU (wrsM A F LN m)) ∧ RU w' r v s (wrsM A F LN m) ∧ BelC c_ A_ n_ W0 w' := by
 have HN := Lib.hid hn
 have NC := Lib.hid NC_
 clear NC_
 have LP := Lib.hid lb
 have LR := Lib.hid lr
 have LV := Lib.hid lv
 have LS := Lib.hid ls
 have NB := Lib.hid AP
 have OK := Lib.hid ok
 have HS := Lib.hid hS
 obtain ⟨u0, hu0⟩ : ∃ u0, u0 = w := ⟨_, rfl⟩
 rw [← hu0] at hP hQ hB ⊢
 have P0 := Lib.hid hP
 have Q0 := Lib.hid hQ
 have B0 := Lib.hid hB
 clear hn lb lr lv ls AP ok hS hP hQ hB hu0
 subst eS
 have HC := Lib.hid hc
 have OF := Lib.hid okF
 clear hc okF
 go_enter Try.func14, Try.ntmps14
 have hnot : ∀ (x : Bool) (w : World), (Op.unary .not (.bool x)).run Try.prog w = .ok (.bool (!x)) w := fun _ _ => rfl
 have Q_ := own1 u0 (.cells #[.int .i64 4, .int .i64 N, .int .u16 A, .int .u8 X, .slice (some ⟨sb, so, none⟩) LN c] 33)
 have B1 := Lib.hid (vianC HN.out B0.out Q_)
 have P1 := Lib.hid (P0.out.below Q_)
 have Q1 := Lib.hid (Q0.out.below Q_)
 have O1 := Lib.hid (Has.new u0 #[.int .i64 4, .int .i64 N, .int .u16 A, .int .u8 X, .slice (some ⟨sb, so, none⟩) LN c] 33)
 have LO := Lib.hid (Nat.le_trans HN.out B0.out.size)
 have NOb := Lib.hid (Nat.ne_of_lt P0.out.1)
 have NOr := Lib.hid (Nat.ne_of_lt Q0.out.R.1)
 have NOv := Lib.hid (Nat.ne_of_lt Q0.out.V.1)
 have NOs := Lib.hid (Nat.ne_of_lt Q0.out.S.1)
 clear Q_
 go_upto_region 1 with (fail)
 generalize u0.alloc (.cells #[.int .i64 4, .int .i64 N, .int .u16 A, .int .u8 X, .slice (some ⟨sb, so, none⟩) LN c] 33) = u1 at B1 P1 Q1 O1 ⊢
 generalize u0.heap.size = ob at O1 LO NOb NOr NOv NOs ⊢
 clear B0 P0 Q0
 obtain ⟨hcO, hfO⟩ := O1.out.out
 go_wp2
 clear hcO hfO
 go_loopg [76] LN (fun g' i wr => ∃ (t : Nat), t ≤ LN ∧ g' + t = LN ∧ i = .int .i64 t ∧ BelC c_ A_ n_ W0 wr ∧ Has wr b (encU (wrsM A F t m)) ∧ RU wr r v s (wrsM A F t m) ∧ Has wr ob #[.int .i64 4, .int .i64 N, .int .u16 A, .int .u8 X, .slice (some ⟨sb, so, none⟩) LN c])
 case atStart => exact ⟨0, by omega, by omega, rfl, B1.out, by have := P1.out; rwa [wrs_zero], by have := Q1.out; rwa [wrs_zero], O1.out⟩
 case round =>
  obtain ⟨t, ht, hg, rfl, hB, hP, hQ, hO⟩ := hrel
  have TG := Lib.hid hg
  clear hg
  have B2 := Lib.hid hB
  clear hB
  have P2 := Lib.hid hP
  clear hP
  have Q2 := Lib.hid hQ
  clear hQ
  have O2 := Lib.hid hO
  clear hO
  clear B1 P1 Q1 O1
  obtain ⟨u2, hu⟩ : ∃ q_, q_ = wr := ⟨_, rfl⟩
  subst hu
  by_cases hlt : t < LN
  ·have l1 : (t : Int) < LN := by omega
   have t6 : (t : Int) < 600 := by omega
   obtain ⟨x, hx⟩ : ∃ x, x = F t := ⟨_, rfl⟩
   obtain ⟨pa, hpa⟩ : ∃ p, p = plcA A t := ⟨_, rfl⟩
   obtain ⟨m1, hm1⟩ : ∃ y, y = wrsM A F t m := ⟨_, rfl⟩
   obtain ⟨m2, hm2⟩ : ∃ y, y = writeM m1 pa x := ⟨_, rfl⟩
   obtain ⟨rr, hrr⟩ : ∃ y, y = writeR m1 pa x := ⟨_, rfl⟩
   have bx : 0 ≤ x ∧ x < 256 := by rw [hx]; exact OF.out t
   have bp : 0 ≤ pa ∧ pa < 65536 := by rw [hpa]; unfold plcA; omega
   have w1 : IntKind.u16.wrap (t : Int) = (t : Int) := by rw [IntKind.wrap_u16]; omega
   have w2 : IntKind.u16.wrap (A + (t : Int)) = pa := by rw [IntKind.wrap_u16, hpa]; rfl
   have ok1 : Ok m1 := by rw [hm1]; exact wrs_ok OK.out A F OF.out t
   rw [← hm1] at P2 Q2
   have hx9 := HC.out t hlt
   rw [← hx] at hx9
   have HX := Lib.hid hx9
   have T1 := Lib.hid (show ∀ W, Has W b (encU m1) → Calls Try.prog 21 #[.pointer (some ⟨b, 0, none⟩), .int .u16 pa, .int .u8 x] W fun q_ w' => q_ = .returned (.int .u8 rr) ∧ Has w' b (encU m2) ∧ Keeps b W w' from fun W hW => by rw [hrr, hm2]; exact write_c b _ ok1 pa bp.1 bp.2 x bx.1 bx.2 W hW)
   have T2 := Lib.hid (show ∀ W, RU W r v s m1 → Calls Try.prog 31 #[.pointer (some ⟨r, 0, none⟩), .int .u16 pa, .int .u8 x] W fun q_ w' => q_ = .returned (.int .u8 rr) ∧ RU w' r v s m2 ∧ Keep3 r v s W w' from fun W hW => by rw [hrr, hm2]; exact rwrite_c r v s _ ok1 pa bp.1 bp.2 x bx.1 bx.2 W hW)
   have HE := Lib.hid (show m2 = wrsM A F (t + 1) m by rw [wrs_succ, ← hm1, ← hpa, ← hx]; exact hm2)
   clear hx hpa hm1 hm2 hrr ok1 hx9
   obtain ⟨hcO, hfO⟩ := O2.out.out
   go_upto_region 19 with (fail)
   clear hcO hfO
   have B3 := Lib.hid B2.out.drew
   have P3 := Lib.hid P2.out.drew
   have Q3 := Lib.hid Q2.out.drew
   have O3 := Lib.hid O2.out.drew
   clear B2 P2 Q2 O2
   refine wp_region_held_drew (S := (fun w' => (∀ o, w'.cell? ⟨ob, o, none⟩ = (#[.int .i64 4, .int .i64 N, .int .u16 A, .int .u8 X, .slice (some ⟨sb, so, none⟩) LN c] : Array Value)[o]?) ∧ w'.cell? ⟨sb, so + t, none⟩ = some (.int .u8 x))) (by kernel_rfl) ⟨O3.out.2.1, (B3.out.cell (p := ⟨sb, so + t, none⟩) hsb).trans HX.out⟩ (fun hHeld => ?_)
   generalize World.drew _ = u3 at hHeld B3 P3 Q3 O3 ⊢
   refine tzz 0 ?_
   refine tzz 1 ?_
   refine tzz 2 ?_
   refine tzz 3 ?_
   refine tzz 4 ?_
   refine tzz 5 ?_
   refine tzz 6 ?_
   refine tzz 7 ?_
   refine tzz 8 ?_
   refine tzz 9 ?_
   refine tzz 10 ?_
   refine tzz 12 ?_
   refine tzz 13 ?_
   refine tzz 14 ?_
   refine tzz 15 ?_
   refine tzz 16 ?_
   refine tzz 17 ?_
   refine tzz 18 ?_
   refine tzz 19 ?_
   refine tzz 20 ?_
   refine tzz 21 ?_
   refine tzz 22 ?_
   refine wpAnyH_ready (rs := [11]) (by kernel_rfl) (by simp) ?_
   refine (acc rfl (fun K hK => ?_) AllReadyH.nil)
   ·skip
    go_simp
    with_reducible refine (T1.out _ P3.out).mono ?_
    rintro q_ u4 ⟨rfl, hP, hk⟩
    have P4 := Lib.hid hP
    have B4 := Lib.hid (hk.belowC HN.out LP.out NC.out.1 B3.out)
    have Q4 := Lib.hid (Q3.out.other hk NB.out.r NB.out.v NB.out.s)
    have O4 := Lib.hid (hk.has (Ne.symm NOb.out) O3.out)
    clear hP hk B3 P3 Q3 O3
    refine hK.out _ _ ?s541 (fun hNew => ?r541)
    case s541 => exact ⟨O4.out.2.1, (B4.out.cell (p := ⟨sb, so + t, none⟩) hsb).trans HX.out⟩
    clear hK K hHeld
    have hHeld := hNew
    clear hNew
    refine wpAnyH_ready (rs := [23]) (by kernel_rfl) (by simp) ?_
    refine (acc rfl (fun K hK => ?_) AllReadyH.nil)
    ·skip
     go_simp
     with_reducible refine (T2.out _ Q4.out).mono ?_
     rintro q_ u5 ⟨rfl, hP, hk⟩
     have Q5 := Lib.hid hP
     have B5 := Lib.hid (hk.belowC HN.out LR.out LV.out LS.out NC.out B4.out)
     have P5 := Lib.hid (hk.has NB.out.r NB.out.v NB.out.s P4.out)
     have O5 := Lib.hid (hk.has (Ne.symm NOr.out) (Ne.symm NOv.out) (Ne.symm NOs.out) O4.out)
     clear hP hk B4 P4 Q4 O4
     refine hK.out _ _ ?s542 (fun hNew => ?r542)
     case s542 => exact ⟨O5.out.2.1, (B5.out.cell (p := ⟨sb, so + t, none⟩) hsb).trans HX.out⟩
     clear hK K hHeld
     have hHeld := hNew
     clear hNew
     refine tzz 24 ?_
     refine wpAnyH_done (by kernel_rfl) ?_ _
     clear hHeld
     obtain ⟨hcO, hfO⟩ := O5.out.out
     go_wp2
     clear hcO hfO
     rw [HE.out] at P5 Q5
     go_roundg (gk - 1)
     ·exact ⟨t + 1, by omega, by have := TG.out; omega, by simp, B5.out, P5.out, Q5.out, O5.out⟩
     case measure => have := TG.out; omega
  ·obtain rfl : LN = t := by omega
   clear TG
   obtain ⟨hcO, hfO⟩ := O2.out.out
   go_upto_region 22 with (fail)
   obtain ⟨L_, hL_⟩ : ∃ x, x = (wrsM A F LN m) 8356 := ⟨_, rfl⟩
   obtain ⟨D_, hD_⟩ : ∃ x, x = (wrsM A F LN m) 8363 := ⟨_, rfl⟩
   obtain ⟨F_, hF_⟩ : ∃ x, x = (wrsM A F LN m) 8365 := ⟨_, rfl⟩
   have bL := (wrs_ok OK.out A F OF.out LN).byte 8356 (by decide) (by decide)
   have bD := (wrs_ok OK.out A F OF.out LN).byte 8363 (by decide) (by decide)
   have bF := (wrs_ok OK.out A F OF.out LN).fr
   rw [← hL_] at bL
   rw [← hD_] at bD
   rw [← hF_] at bF
   have HL_ := Lib.hid hL_.symm
   have HD_ := Lib.hid hD_.symm
   have HF_ := Lib.hid hF_.symm
   clear hL_ hD_ hF_
   obtain ⟨ra, hra⟩ : ∃ x, x = readM (wrsM A F LN m) A := ⟨_, rfl⟩
   obtain ⟨pa, hpa⟩ : ∃ x, x = peekM (wrsM A F LN m) A := ⟨_, rfl⟩
   obtain ⟨rs, hrs⟩ : ∃ x, x = readM (wrsM A F LN m) 65345 := ⟨_, rfl⟩
   have C1 := Lib.hid (show ∀ W, Has W b (encU (wrsM A F LN m)) → Calls Try.prog 26 #[.pointer (some ⟨b, 0, none⟩), .int .u16 A] W fun q_ w' => q_ = .returned (.int .u8 ra) ∧ Below W.heap.size W w' from fun W hW => by
    rw [hra]
    exact read_c b _ (wrs_ok OK.out A F OF.out LN) A bA.1 bA.2 W hW)
   have C2 := Lib.hid (show ∀ W, RU W r v s (wrsM A F LN m) → Calls Try.prog 32 #[.pointer (some ⟨r, 0, none⟩), .int .u16 A] W fun q_ w' => q_ = .returned (.int .u8 ra) ∧ Below W.heap.size W w' from fun W hW => by
    rw [hra]
    exact rread_c r v s _ (wrs_ok OK.out A F OF.out LN) A bA.1 bA.2 W hW)
   have C3 := Lib.hid (show ∀ W, Has W b (encU (wrsM A F LN m)) → Calls Try.prog 27 #[.pointer (some ⟨b, 0, none⟩), .int .u16 A] W fun q_ w' => q_ = .returned (.int .u8 pa) ∧ Below W.heap.size W w' from fun W hW => by
    rw [hpa]
    exact peek_c b _ (wrs_ok OK.out A F OF.out LN) A bA.1 bA.2 W hW)
   have C4 := Lib.hid (show ∀ W, RU W r v s (wrsM A F LN m) → Calls Try.prog 33 #[.pointer (some ⟨r, 0, none⟩), .int .u16 A] W fun q_ w' => q_ = .returned (.int .u8 pa) ∧ Below W.heap.size W w' from fun W hW => by
    rw [hpa]
    exact rpeek_c r v s _ (wrs_ok OK.out A F OF.out LN) A bA.1 bA.2 W hW)
   have C5 := Lib.hid (show ∀ W, Has W b (encU (wrsM A F LN m)) → Calls Try.prog 26 #[.pointer (some ⟨b, 0, none⟩), .int .u16 65345] W fun q_ w' => q_ = .returned (.int .u8 rs) ∧ Below W.heap.size W w' from fun W hW => by
    rw [hrs]
    exact read_c b _ (wrs_ok OK.out A F OF.out LN) 65345 (by decide) (by decide) W hW)
   have C6 := Lib.hid (show ∀ W, RU W r v s (wrsM A F LN m) → Calls Try.prog 32 #[.pointer (some ⟨r, 0, none⟩), .int .u16 65345] W fun q_ w' => q_ = .returned (.int .u8 rs) ∧ Below W.heap.size W w' from fun W hW => by
    rw [hrs]
    exact rread_c r v s _ (wrs_ok OK.out A F OF.out LN) 65345 (by decide) (by decide) W hW)
   clear hra hpa hrs
   have e_L := rc_i v s (wrsM A F LN m) 14 L_ (by decide) (by decide) HL_.out
   have e_d := rc_i v s (wrsM A F LN m) 15 D_ (by decide) (by decide) HD_.out
   have e_fr := rc_i v s (wrsM A F LN m) 17 F_ (by decide) (by decide) HF_.out
   clear hcO hfO
   have B3 := Lib.hid B2.out.drew
   have P3 := Lib.hid P2.out.drew
   have Q3 := Lib.hid Q2.out.drew
   have O3 := Lib.hid O2.out.drew
   clear B2 P2 Q2 O2
   refine wp_region_held_drew (S := (fun w' => (∀ o, w'.cell? ⟨ob, o, none⟩ = (#[.int .i64 4, .int .i64 N, .int .u16 A, .int .u8 X, .slice (some ⟨sb, so, none⟩) LN c] : Array Value)[o]?) ∧ (∀ o, w'.cell? ⟨r, o, none⟩ = (encR v s (wrsM A F LN m))[o]?))) (by kernel_rfl) ⟨O3.out.2.1, Q3.out.R.2.1⟩ (fun hHeld => ?_)
   generalize World.drew _ = u3 at hHeld B3 P3 Q3 O3 ⊢
   refine tzz 0 ?_
   refine tzz 1 ?_
   refine tzz 2 ?_
   refine tzz 4 ?_
   refine tzz 5 ?_
   refine tzz 6 ?_
   refine wpAnyH_ready (rs := [3]) (by kernel_rfl) (by simp) ?_
   refine (acc rfl (fun K hK => ?_) AllReadyH.nil)
   ·skip
    go_simp
    with_reducible refine (C1.out _ P3.out).mono ?_
    rintro q_ u4 ⟨rfl, hb⟩
    have B4 := Lib.hid (vianC HN.out B3.out hb)
    have P4 := Lib.hid (P3.out.below hb)
    have Q4 := Lib.hid (Q3.out.below hb)
    have O4 := Lib.hid (O3.out.below hb)
    clear hb B3 P3 Q3 O3
    refine hK.out _ _ ?s550 (fun hNew => ?r550)
    case s550 => exact ⟨O4.out.2.1, Q4.out.R.2.1⟩
    clear hK K hHeld
    have hHeld := hNew
    clear hNew
    refine wpAnyH_ready (rs := [7]) (by kernel_rfl) (by simp) ?_
    refine (acc rfl (fun K hK => ?_) AllReadyH.nil)
    ·skip
     go_simp
     with_reducible refine (C2.out _ Q4.out).mono ?_
     rintro q_ u5 ⟨rfl, hb⟩
     have B5 := Lib.hid (vianC HN.out B4.out hb)
     have P5 := Lib.hid (P4.out.below hb)
     have Q5 := Lib.hid (Q4.out.below hb)
     have O5 := Lib.hid (O4.out.below hb)
     clear hb B4 P4 Q4 O4
     refine hK.out _ _ ?s551 (fun hNew => ?r551)
     case s551 => exact ⟨O5.out.2.1, Q5.out.R.2.1⟩
     clear hK K hHeld
     have hHeld := hNew
     clear hNew
     refine tzz 8 ?_
     refine tzz 9 ?_
     refine tzz 10 ?_
     refine tzz 11 ?_
     refine tzz 12 ?_
     refine tzz 14 ?_
     refine tzz 15 ?_
     refine tzz 16 ?_
     refine wpAnyH_ready (rs := [13]) (by kernel_rfl) (by simp) ?_
     refine (acc rfl (fun K hK => ?_) AllReadyH.nil)
     ·skip
      go_simp
      with_reducible refine (C3.out _ P5.out).mono ?_
      rintro q_ u6 ⟨rfl, hb⟩
      have B6 := Lib.hid (vianC HN.out B5.out hb)
      have P6 := Lib.hid (P5.out.below hb)
      have Q6 := Lib.hid (Q5.out.below hb)
      have O6 := Lib.hid (O5.out.below hb)
      clear hb B5 P5 Q5 O5
      refine hK.out _ _ ?s560 (fun hNew => ?r560)
      case s560 => exact ⟨O6.out.2.1, Q6.out.R.2.1⟩
      clear hK K hHeld
      have hHeld := hNew
      clear hNew
      refine wpAnyH_ready (rs := [17]) (by kernel_rfl) (by simp) ?_
      refine (acc rfl (fun K hK => ?_) AllReadyH.nil)
      ·skip
       go_simp
       with_reducible refine (C4.out _ Q6.out).mono ?_
       rintro q_ u7 ⟨rfl, hb⟩
       have B7 := Lib.hid (vianC HN.out B6.out hb)
       have P7 := Lib.hid (P6.out.below hb)
       have Q7 := Lib.hid (Q6.out.below hb)
       have O7 := Lib.hid (O6.out.below hb)
       clear hb B6 P6 Q6 O6
       refine hK.out _ _ ?s561 (fun hNew => ?r561)
       case s561 => exact ⟨O7.out.2.1, Q7.out.R.2.1⟩
       clear hK K hHeld
       have hHeld := hNew
       clear hNew
       refine tzz 18 ?_
       refine tzz 19 ?_
       refine tzz 20 ?_
       refine tzz 21 ?_
       refine tzz 23 ?_
       refine wpAnyH_ready (rs := [22]) (by kernel_rfl) (by simp) ?_
       refine (acc rfl (fun K hK => ?_) AllReadyH.nil)
       ·skip
        go_simp
        with_reducible refine (C5.out _ P7.out).mono ?_
        rintro q_ u8 ⟨rfl, hb⟩
        have B8 := Lib.hid (vianC HN.out B7.out hb)
        have P8 := Lib.hid (P7.out.below hb)
        have Q8 := Lib.hid (Q7.out.below hb)
        have O8 := Lib.hid (O7.out.below hb)
        clear hb B7 P7 Q7 O7
        refine hK.out _ _ ?s567 (fun hNew => ?r567)
        case s567 => exact ⟨O8.out.2.1, Q8.out.R.2.1⟩
        clear hK K hHeld
        have hHeld := hNew
        clear hNew
        refine wpAnyH_ready (rs := [24]) (by kernel_rfl) (by simp) ?_
        refine (acc rfl (fun K hK => ?_) AllReadyH.nil)
        ·skip
         go_simp
         with_reducible refine (C6.out _ Q8.out).mono ?_
         rintro q_ u9 ⟨rfl, hb⟩
         have B9 := Lib.hid (vianC HN.out B8.out hb)
         have P9 := Lib.hid (P8.out.below hb)
         have Q9 := Lib.hid (Q8.out.below hb)
         have O9 := Lib.hid (O8.out.below hb)
         clear hb B8 P8 Q8 O8
         refine hK.out _ _ ?s568 (fun hNew => ?r568)
         case s568 => exact ⟨O9.out.2.1, Q9.out.R.2.1⟩
         clear hK K hHeld
         have hHeld := hNew
         clear hNew
         refine tzz 25 ?_
         refine tzz 26 ?_
         refine tzz 27 ?_
         refine tzz 28 ?_
         refine tzz 30 ?_
         refine tzz 31 ?_
         refine tzz 32 ?_
         refine tzz 33 ?_
         refine wpAnyH_ready (rs := [29]) (by kernel_rfl) (by simp) ?_
         refine (acc rfl (fun K hK => ?_) AllReadyH.nil)
         ·skip
          go_simp
          with_reducible refine (line_u b _ L_ HL_.out bL.1 bL.2 _ P9.out).mono ?_
          rintro q_ u10 ⟨rfl, hb⟩
          subst hb
          have B10 := B9
          have P10 := P9
          have Q10 := Q9
          have O10 := O9
          clear B9 P9 Q9 O9
          refine hK.out _ _ ?s577 (fun hNew => ?r577)
          case s577 => exact ⟨O10.out.2.1, Q10.out.R.2.1⟩
          clear hK K hHeld
          have hHeld := hNew
          clear hNew
          refine tzz 34 ?_
          refine tzz 35 ?_
          refine tzz 36 ?_
          refine tzz 37 ?_
          refine tzz 39 ?_
          refine tzz 40 ?_
          refine tzz 41 ?_
          refine tzz 42 ?_
          refine wpAnyH_ready (rs := [38]) (by kernel_rfl) (by simp) ?_
          refine (acc rfl (fun K hK => ?_) AllReadyH.nil)
          ·skip
           go_simp
           with_reducible refine (dot_u b _ D_ HD_.out bD.1 bD.2 _ P10.out).mono ?_
           rintro q_ u11 ⟨rfl, hb⟩
           subst hb
           have B11 := B10
           have P11 := P10
           have Q11 := Q10
           have O11 := O10
           clear B10 P10 Q10 O10
           refine hK.out _ _ ?s586 (fun hNew => ?r586)
           case s586 => exact ⟨O11.out.2.1, Q11.out.R.2.1⟩
           clear hK K hHeld
           have hHeld := hNew
           clear hNew
           refine tzz 43 ?_
           refine tzz 44 ?_
           refine tzz 45 ?_
           refine tzz 46 ?_
           refine tzz 48 ?_
           refine tzz 49 ?_
           refine tzz 50 ?_
           refine tzz 51 ?_
           refine wpAnyH_ready (rs := [47]) (by kernel_rfl) (by simp) ?_
           refine (acc rfl (fun K hK => ?_) AllReadyH.nil)
           ·skip
            go_simp
            with_reducible refine (frames_u b _ F_ HF_.out bF.1 bF.2 _ P11.out).mono ?_
            rintro q_ u12 ⟨rfl, hb⟩
            subst hb
            have B12 := B11
            have P12 := P11
            have Q12 := Q11
            have O12 := O11
            clear B11 P11 Q11 O11
            refine hK.out _ _ ?s595 (fun hNew => ?r595)
            case s595 => exact ⟨O12.out.2.1, Q12.out.R.2.1⟩
            clear hK K hHeld
            have hHeld := hNew
            clear hNew
            refine tzz 52 ?_
            refine tzz 53 ?_
            refine tzz 54 ?_
            refine wpAnyH_done (by kernel_rfl) ?_ _
            clear hHeld
            obtain ⟨hcO, hfO⟩ := O12.out.out
            go_wp2
            all_goals exact bodyPost_ret (v := .bool true) (by simp [results, Try.results14, go_sem]) rfl ⟨rfl, P12.out, Q12.out, B12.out⟩
end Go.Proofs.Ytpfbodmadmneiaa
