/-
 A call of a law on both units side by side: for every unit as it can be; no other condition but that each number fits.
-/
import Derived.Test.YtpfbodmadmneiaaTz
import Derived.Test.YtpfbodmadmneiaaDo
import Derived.Test.YtpfbodmadmneiaaPc
import Derived.Test.YtpfbodmadmneiaaRk
import Derived.Test.YtpfbodmadmneiaaRw
import Derived.Deep.Cut
import Derived.BigQuiet
import Derived.WalkSmall
import Derived.Deep.LoopGhost
import Derived.Deep.DeepCutAuto
import Derived.Deep.CutBlock
namespace Go.Proofs.Ytpfbodmadmneiaa
open Go.ChangeShapes Go.WideShapes Go.ChangeAt Go.RowKit
set_option linter.unusedVariables false
set_option linter.unusedSimpArgs false
set_option maxRecDepth 100000
theorem wp_store_o {op : Oper} {a : Act} {w : World} {K : Act → World → Prop} {Q : Exit → Act → World → Prop} {b : Nat} {m : M} (h : Has w b (encS m))
  (x y : Operand) (ho : op.op = .store 5 x y) (o : Nat) (hx : a.eval x = .pointer (some ⟨b, o, none⟩)) (z : Int) (hy : a.eval y = .int .u8 z) (h1 : o < 160)
  (hK : ∀ w', Has w' b (encS (upd m (8192 + o) z)) → Keeps b w w' → K (a.put op.dst undef) w') : op.wp Try.prog a w K Q := by
 have hs := sv_u h (z := z) (encS_get m o h1)
 have hP := h.set o (.int .u8 z) (by rw [encS_size]; exact h1)
 rw [encS_set m o z h1] at hP
 unfold Oper.wp execOp
 simp only [ho, hx, hy, Instr.storeAt, Instr.sureAddr, Sem.run_bind, Sem.run_pure, Result.andThen_ok, hs]
 exact hK _ hP ((Keeps.refl b w).setCell o _)
/-- As Below, and the block c holds A. -/
structure BelC (c : Nat) (A : Array Value) (n : Nat) (W0 w : World) : Prop where
 B : Below n W0 w
 H : Has w c A
theorem BelC.drew {c : Nat} {A : Array Value} {n : Nat} {W0 w : World} (h : BelC c A n W0 w) : BelC c A n W0 w.drew := ⟨h.B.drew, h.H.drew⟩
theorem BelC.size {c : Nat} {A : Array Value} {n : Nat} {W0 w : World} (h : BelC c A n W0 w) : W0.heap.size ≤ w.heap.size := h.B.size
theorem BelC.cell {c : Nat} {A : Array Value} {n : Nat} {W0 w : World} (h : BelC c A n W0 w) {p : Addr} (hp : p.block < n) : w.cell? p = W0.cell? p := h.B.cell hp
theorem vianC {c : Nat} {A : Array Value} {n : Nat} {W0 W w1 : World} (hn : n ≤ W0.heap.size) (h1 : BelC c A n W0 W) (h2 : Below W.heap.size W w1) : BelC c A n W0 w1 := ⟨vian hn h1.B h2, h1.H.below h2⟩
theorem Keeps.belowC {b c n : Nat} {A : Array Value} {W0 w w' : World} (h : Keeps b w w') (hn : n ≤ W0.heap.size) (hb : n ≤ b) (nc : c ≠ b) (k : BelC c A n W0 w) : BelC c A n W0 w' := ⟨h.below hn hb k.B, h.has nc k.H⟩
theorem Keep3.belowC {r v s c b n : Nat} {A : Array Value} {W0 w w' : World} (h : Keep3 r v s w w') (hn : n ≤ W0.heap.size) (hr : n ≤ r) (hv : n ≤ v) (hs : n ≤ s) (nc : c ≠ b ∧ c ≠ r ∧ c ≠ v ∧ c ≠ s) (k : BelC c A n W0 w) : BelC c A n W0 w' :=
 ⟨h.below hn hr hv hs k.B, h.has nc.2.1 nc.2.2.1 nc.2.2.2 k.H⟩
set_option maxHeartbeats 16000000 in
theorem do_x (c_ : Nat) (A_ : Array Value) (n_ : Nat) (W0 : World) (b r v s : Nat) (NC_ : c_ ≠ b ∧ c_ ≠ r ∧ c_ ≠ v ∧ c_ ≠ s) (AP : Apart b r v s) (lb : n_ ≤ b) (lr : n_ ≤ r) (lv : n_ ≤ v) (ls : n_ ≤ s) (hn : n_ ≤ W0.heap.size) (m : M) (ok : Ok m) (N A X : Int) (bN : -9223372036854775808 ≤ N ∧ N ≤ 9223372036854775807) (bA : 0 ≤ A ∧ A < 65536) (bX : 0 ≤ X ∧ X < 256) (S : Value) (LN : Nat) (F : M) (hS : BsB n_ W0 S LN F) (hLN : LN ≤ 600) (K : Int) (k1 : (K == 1) = false) (k2 : (K == 2) = false) (k3 : (K == 3) = false) (k4 : (K == 4) = false) (w : World) (hP : Has w b (encU m)) (hQ : RU w r v s m) (hB : BelC c_ A_ n_ W0 w) : Calls Try.prog 14 #[.pointer (some ⟨b, 0, none⟩), .pointer (some ⟨r, 0, none⟩), .agg #[.int .i64 K, .int .i64 N, .int .u16 A, .int .u8 X, S]] w fun q_ w' => q_ = .returned (.bool true) ∧ Has w' b (encU (m)) ∧ RU w' r v s (m) ∧ BelC c_ A_ n_ W0 w' := by
 have HN := Lib.hid hn
 have NC := Lib.hid NC_
 clear NC_
 have LP := Lib.hid lb
 have LR := Lib.hid lr
 have LV := Lib.hid lv
 have LS := Lib.hid ls
 have NB := Lib.hid AP
 have OK := Lib.hid ok
 have HS := Lib.hid hS
 obtain ⟨u0, hu0⟩ : ∃ u0, u0 = w := ⟨_, rfl⟩
 rw [← hu0] at hP hQ hB ⊢
 have P0 := Lib.hid hP
 have Q0 := Lib.hid hQ
 have B0 := Lib.hid hB
 clear hn lb lr lv ls AP ok hS hP hQ hB hu0
 go_enter Try.func14, Try.ntmps14
 have hnot : ∀ (x : Bool) (w : World), (Op.unary .not (.bool x)).run Try.prog w = .ok (.bool (!x)) w := fun _ _ => rfl
 have Q_ := own1 u0 (.cells #[.int .i64 K, .int .i64 N, .int .u16 A, .int .u8 X, S] 33)
 have B1 := Lib.hid (vianC HN.out B0.out Q_)
 have P1 := Lib.hid (P0.out.below Q_)
 have Q1 := Lib.hid (Q0.out.below Q_)
 have O1 := Lib.hid (Has.new u0 #[.int .i64 K, .int .i64 N, .int .u16 A, .int .u8 X, S] 33)
 have LO := Lib.hid (Nat.le_trans HN.out B0.out.size)
 have NOb := Lib.hid (Nat.ne_of_lt P0.out.1)
 have NOr := Lib.hid (Nat.ne_of_lt Q0.out.R.1)
 have NOv := Lib.hid (Nat.ne_of_lt Q0.out.V.1)
 have NOs := Lib.hid (Nat.ne_of_lt Q0.out.S.1)
 clear Q_
 go_upto_region 1 with (fail)
 generalize u0.alloc (.cells #[.int .i64 K, .int .i64 N, .int .u16 A, .int .u8 X, S] 33) = u1 at B1 P1 Q1 O1 ⊢
 generalize u0.heap.size = ob at O1 LO NOb NOr NOv NOs ⊢
 clear B0 P0 Q0
 obtain ⟨hcO, hfO⟩ := O1.out.out
 go_upto_region 22 with (fail)
 obtain ⟨L_, hL_⟩ : ∃ x, x = (m) 8356 := ⟨_, rfl⟩
 obtain ⟨D_, hD_⟩ : ∃ x, x = (m) 8363 := ⟨_, rfl⟩
 obtain ⟨F_, hF_⟩ : ∃ x, x = (m) 8365 := ⟨_, rfl⟩
 have bL := (OK.out).byte 8356 (by decide) (by decide)
 have bD := (OK.out).byte 8363 (by decide) (by decide)
 have bF := (OK.out).fr
 rw [← hL_] at bL
 rw [← hD_] at bD
 rw [← hF_] at bF
 have HL_ := Lib.hid hL_.symm
 have HD_ := Lib.hid hD_.symm
 have HF_ := Lib.hid hF_.symm
 clear hL_ hD_ hF_
 obtain ⟨ra, hra⟩ : ∃ x, x = readM (m) A := ⟨_, rfl⟩
 obtain ⟨pa, hpa⟩ : ∃ x, x = peekM (m) A := ⟨_, rfl⟩
 obtain ⟨rs, hrs⟩ : ∃ x, x = readM (m) 65345 := ⟨_, rfl⟩
 have C1 := Lib.hid (show ∀ W, Has W b (encU (m)) → Calls Try.prog 26 #[.pointer (some ⟨b, 0, none⟩), .int .u16 A] W fun q_ w' => q_ = .returned (.int .u8 ra) ∧ Below W.heap.size W w' from fun W hW => by
  rw [hra]
  exact read_c b _ (OK.out) A bA.1 bA.2 W hW)
 have C2 := Lib.hid (show ∀ W, RU W r v s (m) → Calls Try.prog 32 #[.pointer (some ⟨r, 0, none⟩), .int .u16 A] W fun q_ w' => q_ = .returned (.int .u8 ra) ∧ Below W.heap.size W w' from fun W hW => by
  rw [hra]
  exact rread_c r v s _ (OK.out) A bA.1 bA.2 W hW)
 have C3 := Lib.hid (show ∀ W, Has W b (encU (m)) → Calls Try.prog 27 #[.pointer (some ⟨b, 0, none⟩), .int .u16 A] W fun q_ w' => q_ = .returned (.int .u8 pa) ∧ Below W.heap.size W w' from fun W hW => by
  rw [hpa]
  exact peek_c b _ (OK.out) A bA.1 bA.2 W hW)
 have C4 := Lib.hid (show ∀ W, RU W r v s (m) → Calls Try.prog 33 #[.pointer (some ⟨r, 0, none⟩), .int .u16 A] W fun q_ w' => q_ = .returned (.int .u8 pa) ∧ Below W.heap.size W w' from fun W hW => by
  rw [hpa]
  exact rpeek_c r v s _ (OK.out) A bA.1 bA.2 W hW)
 have C5 := Lib.hid (show ∀ W, Has W b (encU (m)) → Calls Try.prog 26 #[.pointer (some ⟨b, 0, none⟩), .int .u16 65345] W fun q_ w' => q_ = .returned (.int .u8 rs) ∧ Below W.heap.size W w' from fun W hW => by
  rw [hrs]
  exact read_c b _ (OK.out) 65345 (by decide) (by decide) W hW)
 have C6 := Lib.hid (show ∀ W, RU W r v s (m) → Calls Try.prog 32 #[.pointer (some ⟨r, 0, none⟩), .int .u16 65345] W fun q_ w' => q_ = .returned (.int .u8 rs) ∧ Below W.heap.size W w' from fun W hW => by
  rw [hrs]
  exact rread_c r v s _ (OK.out) 65345 (by decide) (by decide) W hW)
 clear hra hpa hrs
 have e_L := rc_i v s (m) 14 L_ (by decide) (by decide) HL_.out
 have e_d := rc_i v s (m) 15 D_ (by decide) (by decide) HD_.out
 have e_fr := rc_i v s (m) 17 F_ (by decide) (by decide) HF_.out
 clear hcO hfO
 have B2 := Lib.hid B1.out.drew
 have P2 := Lib.hid P1.out.drew
 have Q2 := Lib.hid Q1.out.drew
 have O2 := Lib.hid O1.out.drew
 clear B1 P1 Q1 O1
 refine wp_region_held_drew (S := (fun w' => (∀ o, w'.cell? ⟨ob, o, none⟩ = (#[.int .i64 K, .int .i64 N, .int .u16 A, .int .u8 X, S] : Array Value)[o]?) ∧ (∀ o, w'.cell? ⟨r, o, none⟩ = (encR v s (m))[o]?))) (by kernel_rfl) ⟨O2.out.2.1, Q2.out.R.2.1⟩ (fun hHeld => ?_)
 generalize World.drew _ = u2 at hHeld B2 P2 Q2 O2 ⊢
 refine tzz 0 ?_
 refine tzz 1 ?_
 refine tzz 2 ?_
 refine tzz 4 ?_
 refine tzz 5 ?_
 refine tzz 6 ?_
 refine wpAnyH_ready (rs := [3]) (by kernel_rfl) (by simp) ?_
 refine (acc rfl (fun K hK => ?_) AllReadyH.nil)
 ·skip
  go_simp
  with_reducible refine (C1.out _ P2.out).mono ?_
  rintro q_ u3 ⟨rfl, hb⟩
  have B3 := Lib.hid (vianC HN.out B2.out hb)
  have P3 := Lib.hid (P2.out.below hb)
  have Q3 := Lib.hid (Q2.out.below hb)
  have O3 := Lib.hid (O2.out.below hb)
  clear hb B2 P2 Q2 O2
  refine hK.out _ _ ?s7 (fun hNew => ?r7)
  case s7 => exact ⟨O3.out.2.1, Q3.out.R.2.1⟩
  clear hK K hHeld
  have hHeld := hNew
  clear hNew
  refine wpAnyH_ready (rs := [7]) (by kernel_rfl) (by simp) ?_
  refine (acc rfl (fun K hK => ?_) AllReadyH.nil)
  ·skip
   go_simp
   with_reducible refine (C2.out _ Q3.out).mono ?_
   rintro q_ u4 ⟨rfl, hb⟩
   have B4 := Lib.hid (vianC HN.out B3.out hb)
   have P4 := Lib.hid (P3.out.below hb)
   have Q4 := Lib.hid (Q3.out.below hb)
   have O4 := Lib.hid (O3.out.below hb)
   clear hb B3 P3 Q3 O3
   refine hK.out _ _ ?s8 (fun hNew => ?r8)
   case s8 => exact ⟨O4.out.2.1, Q4.out.R.2.1⟩
   clear hK K hHeld
   have hHeld := hNew
   clear hNew
   refine tzz 8 ?_
   refine tzz 9 ?_
   refine tzz 10 ?_
   refine tzz 11 ?_
   refine tzz 12 ?_
   refine tzz 14 ?_
   refine tzz 15 ?_
   refine tzz 16 ?_
   refine wpAnyH_ready (rs := [13]) (by kernel_rfl) (by simp) ?_
   refine (acc rfl (fun K hK => ?_) AllReadyH.nil)
   ·skip
    go_simp
    with_reducible refine (C3.out _ P4.out).mono ?_
    rintro q_ u5 ⟨rfl, hb⟩
    have B5 := Lib.hid (vianC HN.out B4.out hb)
    have P5 := Lib.hid (P4.out.below hb)
    have Q5 := Lib.hid (Q4.out.below hb)
    have O5 := Lib.hid (O4.out.below hb)
    clear hb B4 P4 Q4 O4
    refine hK.out _ _ ?s17 (fun hNew => ?r17)
    case s17 => exact ⟨O5.out.2.1, Q5.out.R.2.1⟩
    clear hK K hHeld
    have hHeld := hNew
    clear hNew
    refine wpAnyH_ready (rs := [17]) (by kernel_rfl) (by simp) ?_
    refine (acc rfl (fun K hK => ?_) AllReadyH.nil)
    ·skip
     go_simp
     with_reducible refine (C4.out _ Q5.out).mono ?_
     rintro q_ u6 ⟨rfl, hb⟩
     have B6 := Lib.hid (vianC HN.out B5.out hb)
     have P6 := Lib.hid (P5.out.below hb)
     have Q6 := Lib.hid (Q5.out.below hb)
     have O6 := Lib.hid (O5.out.below hb)
     clear hb B5 P5 Q5 O5
     refine hK.out _ _ ?s18 (fun hNew => ?r18)
     case s18 => exact ⟨O6.out.2.1, Q6.out.R.2.1⟩
     clear hK K hHeld
     have hHeld := hNew
     clear hNew
     refine tzz 18 ?_
     refine tzz 19 ?_
     refine tzz 20 ?_
     refine tzz 21 ?_
     refine tzz 23 ?_
     refine wpAnyH_ready (rs := [22]) (by kernel_rfl) (by simp) ?_
     refine (acc rfl (fun K hK => ?_) AllReadyH.nil)
     ·skip
      go_simp
      with_reducible refine (C5.out _ P6.out).mono ?_
      rintro q_ u7 ⟨rfl, hb⟩
      have B7 := Lib.hid (vianC HN.out B6.out hb)
      have P7 := Lib.hid (P6.out.below hb)
      have Q7 := Lib.hid (Q6.out.below hb)
      have O7 := Lib.hid (O6.out.below hb)
      clear hb B6 P6 Q6 O6
      refine hK.out _ _ ?s24 (fun hNew => ?r24)
      case s24 => exact ⟨O7.out.2.1, Q7.out.R.2.1⟩
      clear hK K hHeld
      have hHeld := hNew
      clear hNew
      refine wpAnyH_ready (rs := [24]) (by kernel_rfl) (by simp) ?_
      refine (acc rfl (fun K hK => ?_) AllReadyH.nil)
      ·skip
       go_simp
       with_reducible refine (C6.out _ Q7.out).mono ?_
       rintro q_ u8 ⟨rfl, hb⟩
       have B8 := Lib.hid (vianC HN.out B7.out hb)
       have P8 := Lib.hid (P7.out.below hb)
       have Q8 := Lib.hid (Q7.out.below hb)
       have O8 := Lib.hid (O7.out.below hb)
       clear hb B7 P7 Q7 O7
       refine hK.out _ _ ?s25 (fun hNew => ?r25)
       case s25 => exact ⟨O8.out.2.1, Q8.out.R.2.1⟩
       clear hK K hHeld
       have hHeld := hNew
       clear hNew
       refine tzz 25 ?_
       refine tzz 26 ?_
       refine tzz 27 ?_
       refine tzz 28 ?_
       refine tzz 30 ?_
       refine tzz 31 ?_
       refine tzz 32 ?_
       refine tzz 33 ?_
       refine wpAnyH_ready (rs := [29]) (by kernel_rfl) (by simp) ?_
       refine (acc rfl (fun K hK => ?_) AllReadyH.nil)
       ·skip
        go_simp
        with_reducible refine (line_u b _ L_ HL_.out bL.1 bL.2 _ P8.out).mono ?_
        rintro q_ u9 ⟨rfl, hb⟩
        subst hb
        have B9 := B8
        have P9 := P8
        have Q9 := Q8
        have O9 := O8
        clear B8 P8 Q8 O8
        refine hK.out _ _ ?s34 (fun hNew => ?r34)
        case s34 => exact ⟨O9.out.2.1, Q9.out.R.2.1⟩
        clear hK K hHeld
        have hHeld := hNew
        clear hNew
        refine tzz 34 ?_
        refine tzz 35 ?_
        refine tzz 36 ?_
        refine tzz 37 ?_
        refine tzz 39 ?_
        refine tzz 40 ?_
        refine tzz 41 ?_
        refine tzz 42 ?_
        refine wpAnyH_ready (rs := [38]) (by kernel_rfl) (by simp) ?_
        refine (acc rfl (fun K hK => ?_) AllReadyH.nil)
        ·skip
         go_simp
         with_reducible refine (dot_u b _ D_ HD_.out bD.1 bD.2 _ P9.out).mono ?_
         rintro q_ u10 ⟨rfl, hb⟩
         subst hb
         have B10 := B9
         have P10 := P9
         have Q10 := Q9
         have O10 := O9
         clear B9 P9 Q9 O9
         refine hK.out _ _ ?s43 (fun hNew => ?r43)
         case s43 => exact ⟨O10.out.2.1, Q10.out.R.2.1⟩
         clear hK K hHeld
         have hHeld := hNew
         clear hNew
         refine tzz 43 ?_
         refine tzz 44 ?_
         refine tzz 45 ?_
         refine tzz 46 ?_
         refine tzz 48 ?_
         refine tzz 49 ?_
         refine tzz 50 ?_
         refine tzz 51 ?_
         refine wpAnyH_ready (rs := [47]) (by kernel_rfl) (by simp) ?_
         refine (acc rfl (fun K hK => ?_) AllReadyH.nil)
         ·skip
          go_simp
          with_reducible refine (frames_u b _ F_ HF_.out bF.1 bF.2 _ P10.out).mono ?_
          rintro q_ u11 ⟨rfl, hb⟩
          subst hb
          have B11 := B10
          have P11 := P10
          have Q11 := Q10
          have O11 := O10
          clear B10 P10 Q10 O10
          refine hK.out _ _ ?s52 (fun hNew => ?r52)
          case s52 => exact ⟨O11.out.2.1, Q11.out.R.2.1⟩
          clear hK K hHeld
          have hHeld := hNew
          clear hNew
          refine tzz 52 ?_
          refine tzz 53 ?_
          refine tzz 54 ?_
          refine wpAnyH_done (by kernel_rfl) ?_ _
          clear hHeld
          obtain ⟨hcO, hfO⟩ := O11.out.out
          go_wp2
          all_goals exact bodyPost_ret (v := .bool true) (by simp [results, Try.results14, go_sem]) rfl ⟨rfl, P11.out, Q11.out, B11.out⟩
set_option maxHeartbeats 16000000 in
theorem do_2 (c_ : Nat) (A_ : Array Value) (n_ : Nat) (W0 : World) (b r v s : Nat) (NC_ : c_ ≠ b ∧ c_ ≠ r ∧ c_ ≠ v ∧ c_ ≠ s) (AP : Apart b r v s) (lb : n_ ≤ b) (lr : n_ ≤ r) (lv : n_ ≤ v) (ls : n_ ≤ s) (hn : n_ ≤ W0.heap.size) (m : M) (ok : Ok m) (N A X : Int) (bN : -9223372036854775808 ≤ N ∧ N ≤ 9223372036854775807) (bA : 0 ≤ A ∧ A < 65536) (bX : 0 ≤ X ∧ X < 256) (S : Value) (LN : Nat) (F : M) (hS : BsB n_ W0 S LN F) (hLN : LN ≤ 600) (w : World) (hP : Has w b (encU m)) (hQ : RU w r v s m) (hB : BelC c_ A_ n_ W0 w) : Calls Try.prog 14 #[.pointer (some ⟨b, 0, none⟩), .pointer (some ⟨r, 0, none⟩), .agg #[.int .i64 2, .int .i64 N, .int .u16 A, .int .u8 X, S]] w fun q_ w' => q_ = .returned (.bool true) ∧ Has w' b (encU (writeM m A X)) ∧ RU w' r v s (writeM m A X) ∧ BelC c_ A_ n_ W0 w' := by
 have HN := Lib.hid hn
 have NC := Lib.hid NC_
 clear NC_
 have LP := Lib.hid lb
 have LR := Lib.hid lr
 have LV := Lib.hid lv
 have LS := Lib.hid ls
 have NB := Lib.hid AP
 have OK := Lib.hid ok
 have HS := Lib.hid hS
 obtain ⟨u0, hu0⟩ : ∃ u0, u0 = w := ⟨_, rfl⟩
 rw [← hu0] at hP hQ hB ⊢
 have P0 := Lib.hid hP
 have Q0 := Lib.hid hQ
 have B0 := Lib.hid hB
 clear hn lb lr lv ls AP ok hS hP hQ hB hu0
 go_enter Try.func14, Try.ntmps14
 have hnot : ∀ (x : Bool) (w : World), (Op.unary .not (.bool x)).run Try.prog w = .ok (.bool (!x)) w := fun _ _ => rfl
 have Q_ := own1 u0 (.cells #[.int .i64 2, .int .i64 N, .int .u16 A, .int .u8 X, S] 33)
 have B1 := Lib.hid (vianC HN.out B0.out Q_)
 have P1 := Lib.hid (P0.out.below Q_)
 have Q1 := Lib.hid (Q0.out.below Q_)
 have O1 := Lib.hid (Has.new u0 #[.int .i64 2, .int .i64 N, .int .u16 A, .int .u8 X, S] 33)
 have LO := Lib.hid (Nat.le_trans HN.out B0.out.size)
 have NOb := Lib.hid (Nat.ne_of_lt P0.out.1)
 have NOr := Lib.hid (Nat.ne_of_lt Q0.out.R.1)
 have NOv := Lib.hid (Nat.ne_of_lt Q0.out.V.1)
 have NOs := Lib.hid (Nat.ne_of_lt Q0.out.S.1)
 clear Q_
 go_upto_region 1 with (fail)
 generalize u0.alloc (.cells #[.int .i64 2, .int .i64 N, .int .u16 A, .int .u8 X, S] 33) = u1 at B1 P1 Q1 O1 ⊢
 generalize u0.heap.size = ob at O1 LO NOb NOr NOv NOs ⊢
 clear B0 P0 Q0
 obtain ⟨hcO, hfO⟩ := O1.out.out
 obtain ⟨m2, hm2⟩ : ∃ x, x = writeM m A X := ⟨_, rfl⟩
 have OK2 := Lib.hid (show Ok m2 by rw [hm2]; exact ok_write OK.out A X bX)
 have C7 := Lib.hid (show ∀ W, Has W b (encU m) → Calls Try.prog 21 #[.pointer (some ⟨b, 0, none⟩), .int .u16 A, .int .u8 X] W fun q_ w' => q_ = .returned (.int .u8 (writeR m A X)) ∧ Has w' b (encU m2) ∧ Keeps b W w' from fun W hW => by rw [hm2]; exact write_c b m OK.out A bA.1 bA.2 X bX.1 bX.2 W hW)
 have C8 := Lib.hid (show ∀ W, RU W r v s m → Calls Try.prog 31 #[.pointer (some ⟨r, 0, none⟩), .int .u16 A, .int .u8 X] W fun q_ w' => q_ = .returned (.int .u8 (writeR m A X)) ∧ RU w' r v s m2 ∧ Keep3 r v s W w' from fun W hW => by rw [hm2]; exact rwrite_c r v s m OK.out A bA.1 bA.2 X bX.1 bX.2 W hW)
 have HM2 := Lib.hid hm2
 clear hm2
 go_upto_region 9 with (fail)
 clear hcO hfO
 have B2 := Lib.hid B1.out.drew
 have P2 := Lib.hid P1.out.drew
 have Q2 := Lib.hid Q1.out.drew
 have O2 := Lib.hid O1.out.drew
 clear B1 P1 Q1 O1
 refine wp_region_held_drew (S := (fun w' => ∀ o, w'.cell? ⟨ob, o, none⟩ = (#[.int .i64 2, .int .i64 N, .int .u16 A, .int .u8 X, S] : Array Value)[o]?)) (by kernel_rfl) O2.out.2.1 (fun hHeld => ?_)
 generalize World.drew _ = u2 at hHeld B2 P2 Q2 O2 ⊢
 refine tzz 0 ?_
 refine tzz 1 ?_
 refine tzz 2 ?_
 refine tzz 3 ?_
 refine tzz 4 ?_
 refine tzz 6 ?_
 refine tzz 7 ?_
 refine tzz 8 ?_
 refine tzz 9 ?_
 refine tzz 10 ?_
 refine wpAnyH_ready (rs := [5]) (by kernel_rfl) (by simp) ?_
 refine (acc rfl (fun K hK => ?_) AllReadyH.nil)
 ·skip
  go_simp
  with_reducible refine (C7.out _ P2.out).mono ?_
  rintro q_ u3 ⟨rfl, hP, hk⟩
  have P3 := Lib.hid hP
  have B3 := Lib.hid (hk.belowC HN.out LP.out NC.out.1 B2.out)
  have Q3 := Lib.hid (Q2.out.other hk NB.out.r NB.out.v NB.out.s)
  have O3 := Lib.hid (hk.has (Ne.symm NOb.out) O2.out)
  clear hP hk B2 P2 Q2 O2
  refine hK.out _ _ ?s66 (fun hNew => ?r66)
  case s66 => exact O3.out.2.1
  clear hK K hHeld
  have hHeld := hNew
  clear hNew
  refine wpAnyH_ready (rs := [11]) (by kernel_rfl) (by simp) ?_
  refine (acc rfl (fun K hK => ?_) AllReadyH.nil)
  ·skip
   go_simp
   with_reducible refine (C8.out _ Q3.out).mono ?_
   rintro q_ u4 ⟨rfl, hP, hk⟩
   have Q4 := Lib.hid hP
   have B4 := Lib.hid (hk.belowC HN.out LR.out LV.out LS.out NC.out B3.out)
   have P4 := Lib.hid (hk.has NB.out.r NB.out.v NB.out.s P3.out)
   have O4 := Lib.hid (hk.has (Ne.symm NOr.out) (Ne.symm NOv.out) (Ne.symm NOs.out) O3.out)
   clear hP hk B3 P3 Q3 O3
   refine hK.out _ _ ?s67 (fun hNew => ?r67)
   case s67 => exact O4.out.2.1
   clear hK K hHeld
   have hHeld := hNew
   clear hNew
   refine tzz 12 ?_
   refine wpAnyH_done (by kernel_rfl) ?_ _
   clear hHeld
   obtain ⟨hcO, hfO⟩ := O4.out.out
   rw [HM2.out] at P4 Q4 OK2
   go_upto_region 22 with (fail)
   obtain ⟨L_, hL_⟩ : ∃ x, x = (writeM m A X) 8356 := ⟨_, rfl⟩
   obtain ⟨D_, hD_⟩ : ∃ x, x = (writeM m A X) 8363 := ⟨_, rfl⟩
   obtain ⟨F_, hF_⟩ : ∃ x, x = (writeM m A X) 8365 := ⟨_, rfl⟩
   have bL := (OK2.out).byte 8356 (by decide) (by decide)
   have bD := (OK2.out).byte 8363 (by decide) (by decide)
   have bF := (OK2.out).fr
   rw [← hL_] at bL
   rw [← hD_] at bD
   rw [← hF_] at bF
   have HL_ := Lib.hid hL_.symm
   have HD_ := Lib.hid hD_.symm
   have HF_ := Lib.hid hF_.symm
   clear hL_ hD_ hF_
   obtain ⟨ra, hra⟩ : ∃ x, x = readM (writeM m A X) A := ⟨_, rfl⟩
   obtain ⟨pa, hpa⟩ : ∃ x, x = peekM (writeM m A X) A := ⟨_, rfl⟩
   obtain ⟨rs, hrs⟩ : ∃ x, x = readM (writeM m A X) 65345 := ⟨_, rfl⟩
   have C1 := Lib.hid (show ∀ W, Has W b (encU (writeM m A X)) → Calls Try.prog 26 #[.pointer (some ⟨b, 0, none⟩), .int .u16 A] W fun q_ w' => q_ = .returned (.int .u8 ra) ∧ Below W.heap.size W w' from fun W hW => by
    rw [hra]
    exact read_c b _ (OK2.out) A bA.1 bA.2 W hW)
   have C2 := Lib.hid (show ∀ W, RU W r v s (writeM m A X) → Calls Try.prog 32 #[.pointer (some ⟨r, 0, none⟩), .int .u16 A] W fun q_ w' => q_ = .returned (.int .u8 ra) ∧ Below W.heap.size W w' from fun W hW => by
    rw [hra]
    exact rread_c r v s _ (OK2.out) A bA.1 bA.2 W hW)
   have C3 := Lib.hid (show ∀ W, Has W b (encU (writeM m A X)) → Calls Try.prog 27 #[.pointer (some ⟨b, 0, none⟩), .int .u16 A] W fun q_ w' => q_ = .returned (.int .u8 pa) ∧ Below W.heap.size W w' from fun W hW => by
    rw [hpa]
    exact peek_c b _ (OK2.out) A bA.1 bA.2 W hW)
   have C4 := Lib.hid (show ∀ W, RU W r v s (writeM m A X) → Calls Try.prog 33 #[.pointer (some ⟨r, 0, none⟩), .int .u16 A] W fun q_ w' => q_ = .returned (.int .u8 pa) ∧ Below W.heap.size W w' from fun W hW => by
    rw [hpa]
    exact rpeek_c r v s _ (OK2.out) A bA.1 bA.2 W hW)
   have C5 := Lib.hid (show ∀ W, Has W b (encU (writeM m A X)) → Calls Try.prog 26 #[.pointer (some ⟨b, 0, none⟩), .int .u16 65345] W fun q_ w' => q_ = .returned (.int .u8 rs) ∧ Below W.heap.size W w' from fun W hW => by
    rw [hrs]
    exact read_c b _ (OK2.out) 65345 (by decide) (by decide) W hW)
   have C6 := Lib.hid (show ∀ W, RU W r v s (writeM m A X) → Calls Try.prog 32 #[.pointer (some ⟨r, 0, none⟩), .int .u16 65345] W fun q_ w' => q_ = .returned (.int .u8 rs) ∧ Below W.heap.size W w' from fun W hW => by
    rw [hrs]
    exact rread_c r v s _ (OK2.out) 65345 (by decide) (by decide) W hW)
   clear hra hpa hrs
   have e_L := rc_i v s (writeM m A X) 14 L_ (by decide) (by decide) HL_.out
   have e_d := rc_i v s (writeM m A X) 15 D_ (by decide) (by decide) HD_.out
   have e_fr := rc_i v s (writeM m A X) 17 F_ (by decide) (by decide) HF_.out
   clear hcO hfO
   have B5 := Lib.hid B4.out.drew
   have P5 := Lib.hid P4.out.drew
   have Q5 := Lib.hid Q4.out.drew
   have O5 := Lib.hid O4.out.drew
   clear B4 P4 Q4 O4
   refine wp_region_held_drew (S := (fun w' => (∀ o, w'.cell? ⟨ob, o, none⟩ = (#[.int .i64 2, .int .i64 N, .int .u16 A, .int .u8 X, S] : Array Value)[o]?) ∧ (∀ o, w'.cell? ⟨r, o, none⟩ = (encR v s (writeM m A X))[o]?))) (by kernel_rfl) ⟨O5.out.2.1, Q5.out.R.2.1⟩ (fun hHeld => ?_)
   generalize World.drew _ = u5 at hHeld B5 P5 Q5 O5 ⊢
   refine tzz 0 ?_
   refine tzz 1 ?_
   refine tzz 2 ?_
   refine tzz 4 ?_
   refine tzz 5 ?_
   refine tzz 6 ?_
   refine wpAnyH_ready (rs := [3]) (by kernel_rfl) (by simp) ?_
   refine (acc rfl (fun K hK => ?_) AllReadyH.nil)
   ·skip
    go_simp
    with_reducible refine (C1.out _ P5.out).mono ?_
    rintro q_ u6 ⟨rfl, hb⟩
    have B6 := Lib.hid (vianC HN.out B5.out hb)
    have P6 := Lib.hid (P5.out.below hb)
    have Q6 := Lib.hid (Q5.out.below hb)
    have O6 := Lib.hid (O5.out.below hb)
    clear hb B5 P5 Q5 O5
    refine hK.out _ _ ?s75 (fun hNew => ?r75)
    case s75 => exact ⟨O6.out.2.1, Q6.out.R.2.1⟩
    clear hK K hHeld
    have hHeld := hNew
    clear hNew
    refine wpAnyH_ready (rs := [7]) (by kernel_rfl) (by simp) ?_
    refine (acc rfl (fun K hK => ?_) AllReadyH.nil)
    ·skip
     go_simp
     with_reducible refine (C2.out _ Q6.out).mono ?_
     rintro q_ u7 ⟨rfl, hb⟩
     have B7 := Lib.hid (vianC HN.out B6.out hb)
     have P7 := Lib.hid (P6.out.below hb)
     have Q7 := Lib.hid (Q6.out.below hb)
     have O7 := Lib.hid (O6.out.below hb)
     clear hb B6 P6 Q6 O6
     refine hK.out _ _ ?s76 (fun hNew => ?r76)
     case s76 => exact ⟨O7.out.2.1, Q7.out.R.2.1⟩
     clear hK K hHeld
     have hHeld := hNew
     clear hNew
     refine tzz 8 ?_
     refine tzz 9 ?_
     refine tzz 10 ?_
     refine tzz 11 ?_
     refine tzz 12 ?_
     refine tzz 14 ?_
     refine tzz 15 ?_
     refine tzz 16 ?_
     refine wpAnyH_ready (rs := [13]) (by kernel_rfl) (by simp) ?_
     refine (acc rfl (fun K hK => ?_) AllReadyH.nil)
     ·skip
      go_simp
      with_reducible refine (C3.out _ P7.out).mono ?_
      rintro q_ u8 ⟨rfl, hb⟩
      have B8 := Lib.hid (vianC HN.out B7.out hb)
      have P8 := Lib.hid (P7.out.below hb)
      have Q8 := Lib.hid (Q7.out.below hb)
      have O8 := Lib.hid (O7.out.below hb)
      clear hb B7 P7 Q7 O7
      refine hK.out _ _ ?s85 (fun hNew => ?r85)
      case s85 => exact ⟨O8.out.2.1, Q8.out.R.2.1⟩
      clear hK K hHeld
      have hHeld := hNew
      clear hNew
      refine wpAnyH_ready (rs := [17]) (by kernel_rfl) (by simp) ?_
      refine (acc rfl (fun K hK => ?_) AllReadyH.nil)
      ·skip
       go_simp
       with_reducible refine (C4.out _ Q8.out).mono ?_
       rintro q_ u9 ⟨rfl, hb⟩
       have B9 := Lib.hid (vianC HN.out B8.out hb)
       have P9 := Lib.hid (P8.out.below hb)
       have Q9 := Lib.hid (Q8.out.below hb)
       have O9 := Lib.hid (O8.out.below hb)
       clear hb B8 P8 Q8 O8
       refine hK.out _ _ ?s86 (fun hNew => ?r86)
       case s86 => exact ⟨O9.out.2.1, Q9.out.R.2.1⟩
       clear hK K hHeld
       have hHeld := hNew
       clear hNew
       refine tzz 18 ?_
       refine tzz 19 ?_
       refine tzz 20 ?_
       refine tzz 21 ?_
       refine tzz 23 ?_
       refine wpAnyH_ready (rs := [22]) (by kernel_rfl) (by simp) ?_
       refine (acc rfl (fun K hK => ?_) AllReadyH.nil)
       ·skip
        go_simp
        with_reducible refine (C5.out _ P9.out).mono ?_
        rintro q_ u10 ⟨rfl, hb⟩
        have B10 := Lib.hid (vianC HN.out B9.out hb)
        have P10 := Lib.hid (P9.out.below hb)
        have Q10 := Lib.hid (Q9.out.below hb)
        have O10 := Lib.hid (O9.out.below hb)
        clear hb B9 P9 Q9 O9
        refine hK.out _ _ ?s92 (fun hNew => ?r92)
        case s92 => exact ⟨O10.out.2.1, Q10.out.R.2.1⟩
        clear hK K hHeld
        have hHeld := hNew
        clear hNew
        refine wpAnyH_ready (rs := [24]) (by kernel_rfl) (by simp) ?_
        refine (acc rfl (fun K hK => ?_) AllReadyH.nil)
        ·skip
         go_simp
         with_reducible refine (C6.out _ Q10.out).mono ?_
         rintro q_ u11 ⟨rfl, hb⟩
         have B11 := Lib.hid (vianC HN.out B10.out hb)
         have P11 := Lib.hid (P10.out.below hb)
         have Q11 := Lib.hid (Q10.out.below hb)
         have O11 := Lib.hid (O10.out.below hb)
         clear hb B10 P10 Q10 O10
         refine hK.out _ _ ?s93 (fun hNew => ?r93)
         case s93 => exact ⟨O11.out.2.1, Q11.out.R.2.1⟩
         clear hK K hHeld
         have hHeld := hNew
         clear hNew
         refine tzz 25 ?_
         refine tzz 26 ?_
         refine tzz 27 ?_
         refine tzz 28 ?_
         refine tzz 30 ?_
         refine tzz 31 ?_
         refine tzz 32 ?_
         refine tzz 33 ?_
         refine wpAnyH_ready (rs := [29]) (by kernel_rfl) (by simp) ?_
         refine (acc rfl (fun K hK => ?_) AllReadyH.nil)
         ·skip
          go_simp
          with_reducible refine (line_u b _ L_ HL_.out bL.1 bL.2 _ P11.out).mono ?_
          rintro q_ u12 ⟨rfl, hb⟩
          subst hb
          have B12 := B11
          have P12 := P11
          have Q12 := Q11
          have O12 := O11
          clear B11 P11 Q11 O11
          refine hK.out _ _ ?s102 (fun hNew => ?r102)
          case s102 => exact ⟨O12.out.2.1, Q12.out.R.2.1⟩
          clear hK K hHeld
          have hHeld := hNew
          clear hNew
          refine tzz 34 ?_
          refine tzz 35 ?_
          refine tzz 36 ?_
          refine tzz 37 ?_
          refine tzz 39 ?_
          refine tzz 40 ?_
          refine tzz 41 ?_
          refine tzz 42 ?_
          refine wpAnyH_ready (rs := [38]) (by kernel_rfl) (by simp) ?_
          refine (acc rfl (fun K hK => ?_) AllReadyH.nil)
          ·skip
           go_simp
           with_reducible refine (dot_u b _ D_ HD_.out bD.1 bD.2 _ P12.out).mono ?_
           rintro q_ u13 ⟨rfl, hb⟩
           subst hb
           have B13 := B12
           have P13 := P12
           have Q13 := Q12
           have O13 := O12
           clear B12 P12 Q12 O12
           refine hK.out _ _ ?s111 (fun hNew => ?r111)
           case s111 => exact ⟨O13.out.2.1, Q13.out.R.2.1⟩
           clear hK K hHeld
           have hHeld := hNew
           clear hNew
           refine tzz 43 ?_
           refine tzz 44 ?_
           refine tzz 45 ?_
           refine tzz 46 ?_
           refine tzz 48 ?_
           refine tzz 49 ?_
           refine tzz 50 ?_
           refine tzz 51 ?_
           refine wpAnyH_ready (rs := [47]) (by kernel_rfl) (by simp) ?_
           refine (acc rfl (fun K hK => ?_) AllReadyH.nil)
           ·skip
            go_simp
            with_reducible refine (frames_u b _ F_ HF_.out bF.1 bF.2 _ P13.out).mono ?_
            rintro q_ u14 ⟨rfl, hb⟩
            subst hb
            have B14 := B13
            have P14 := P13
            have Q14 := Q13
            have O14 := O13
            clear B13 P13 Q13 O13
            refine hK.out _ _ ?s120 (fun hNew => ?r120)
            case s120 => exact ⟨O14.out.2.1, Q14.out.R.2.1⟩
            clear hK K hHeld
            have hHeld := hNew
            clear hNew
            refine tzz 52 ?_
            refine tzz 53 ?_
            refine tzz 54 ?_
            refine wpAnyH_done (by kernel_rfl) ?_ _
            clear hHeld
            obtain ⟨hcO, hfO⟩ := O14.out.out
            go_wp2
            all_goals exact bodyPost_ret (v := .bool true) (by simp [results, Try.results14, go_sem]) rfl ⟨rfl, P14.out, Q14.out, B14.out⟩
end Go.Proofs.Ytpfbodmadmneiaa
