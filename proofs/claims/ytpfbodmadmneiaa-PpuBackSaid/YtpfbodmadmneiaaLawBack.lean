/-
  Proved: for every input the law PpuBack returns true (Rows.PpuBackSaid), with no condition.
-/
import Derived.Test.YtpfbodmadmneiaaXk
import Derived.Deep.Cut
import Derived.BigQuiet
import Derived.WalkSmall
import Derived.Deep.LoopGhost
import Derived.Deep.DeepCutAuto
import Derived.Deep.CutBlock
import Derived.Laws.StructEq
namespace Go.Proofs.Ytpfbodmadmneiaa
open Go.ChangeShapes Go.WideShapes Go.ChangeAt Go.RowKit
set_option linter.unusedVariables false
set_option linter.unusedSimpArgs false
set_option maxRecDepth 100000
set_option maxHeartbeats 16000000 in
theorem bkw_m1 (n_ : Nat) (W0 : World) (hn : n_ ≤ W0.heap.size) (vv vv2 : Value) (n n2 : Nat) (O O2 : Nat → OpV) (hV : OpsB n_ W0 vv n O) (hV2 : OpsB n_ W0 vv2 n2 O2) (hf : fewV n O = false) (w : World) (hB : Below n_ W0 w) : Calls Try.prog 4 #[vv, vv2] w fun q_ w' => q_ = .returned (.bool true) ∧ Below n_ W0 w' := by
 have HN := Lib.hid hn
 have HV := Lib.hid hV
 have HV2 := Lib.hid hV2
 obtain ⟨u0, hu0⟩ : ∃ u0, u0 = w := ⟨_, rfl⟩
 rw [← hu0] at hB ⊢
 have B0 := Lib.hid hB
 clear hn hV hV2 hB hu0
 have AW := Lib.hid awake_c
 have HF := Lib.hid hf
 clear hf
 have hnot : ∀ (x : Bool) (w : World), (Op.unary .not (.bool x)).run Try.prog w = .ok (.bool (!x)) w := fun _ _ => rfl
 go_enter Try.func4, Try.ntmps4
 go_wp2_with (fail)
 with_reducible refine (AW.out _).mono ?_
 rintro q_ u1 ⟨rfl, hb⟩
 have B1 := Lib.hid (vian HN.out B0.out hb)
 clear hb B0
 go_wp2_with (fail)
 with_reducible refine (few_c n_ W0 vv n O HV.out false HF.out _ B1.out).mono ?_
 rintro q_ w' ⟨rfl, hb⟩
 have hb' := hb.symm
 clear hb
 subst hb'
 go_wp2_with (fail)
 with_reducible refine (AW.out _).mono ?_
 rintro q_ u2 ⟨rfl, hb⟩
 have B2 := Lib.hid (vian HN.out B1.out hb)
 clear hb B1
 go_wp2
 all_goals exact bodyPost_ret (v := .bool true) (by simp [results, Try.results4, go_sem]) rfl ⟨rfl, B2.out⟩
set_option maxHeartbeats 16000000 in
theorem bkw_m2 (n_ : Nat) (W0 : World) (hn : n_ ≤ W0.heap.size) (vv vv2 : Value) (n n2 : Nat) (O O2 : Nat → OpV) (hV : OpsB n_ W0 vv n O) (hV2 : OpsB n_ W0 vv2 n2 O2) (hf : fewV n O = true) (hf2 : fewV n2 O2 = false) (w : World) (hB : Below n_ W0 w) : Calls Try.prog 4 #[vv, vv2] w fun q_ w' => q_ = .returned (.bool true) ∧ Below n_ W0 w' := by
 have HN := Lib.hid hn
 have HV := Lib.hid hV
 have HV2 := Lib.hid hV2
 obtain ⟨u0, hu0⟩ : ∃ u0, u0 = w := ⟨_, rfl⟩
 rw [← hu0] at hB ⊢
 have B0 := Lib.hid hB
 clear hn hV hV2 hB hu0
 have AW := Lib.hid awake_c
 have HF := Lib.hid hf
 clear hf
 have HF2 := Lib.hid hf2
 clear hf2
 have hnot : ∀ (x : Bool) (w : World), (Op.unary .not (.bool x)).run Try.prog w = .ok (.bool (!x)) w := fun _ _ => rfl
 go_enter Try.func4, Try.ntmps4
 go_wp2_with (fail)
 with_reducible refine (AW.out _).mono ?_
 rintro q_ u1 ⟨rfl, hb⟩
 have B1 := Lib.hid (vian HN.out B0.out hb)
 clear hb B0
 go_wp2_with (fail)
 with_reducible refine (few_c n_ W0 vv n O HV.out true HF.out _ B1.out).mono ?_
 rintro q_ w' ⟨rfl, hb⟩
 have hb' := hb.symm
 clear hb
 subst hb'
 go_wp2_with (fail)
 with_reducible refine (few_c n_ W0 vv2 n2 O2 HV2.out false HF2.out _ B1.out).mono ?_
 rintro q_ w' ⟨rfl, hb⟩
 have hb' := hb.symm
 clear hb
 subst hb'
 go_wp2_with (fail)
 with_reducible refine (AW.out _).mono ?_
 rintro q_ u2 ⟨rfl, hb⟩
 have B2 := Lib.hid (vian HN.out B1.out hb)
 clear hb B1
 go_wp2
 all_goals exact bodyPost_ret (v := .bool true) (by simp [results, Try.results4, go_sem]) rfl ⟨rfl, B2.out⟩
set_option maxHeartbeats 16000000 in
theorem bkw_t (n_ : Nat) (W0 : World) (hn : n_ ≤ W0.heap.size) (vv vv2 : Value) (n n2 : Nat) (O O2 : Nat → OpV) (hV : OpsB n_ W0 vv n O) (hV2 : OpsB n_ W0 vv2 n2 O2) (hf : fewV n O = true) (hf2 : fewV n2 O2 = true) (w : World) (hB : Below n_ W0 w) : Calls Try.prog 4 #[vv, vv2] w fun q_ w' => q_ = .returned (.bool true) ∧ Below n_ W0 w' := by
 have HN := Lib.hid hn
 have HV := Lib.hid hV
 have HV2 := Lib.hid hV2
 obtain ⟨u0, hu0⟩ : ∃ u0, u0 = w := ⟨_, rfl⟩
 rw [← hu0] at hB ⊢
 have B0 := Lib.hid hB
 clear hn hV hV2 hB hu0
 have AW := Lib.hid awake_c
 have FW := Lib.hid (fun z hz w hB => few_c n_ W0 vv n O HV.out z hz w hB)
 have FW2 := Lib.hid (fun z hz w hB => few_c n_ W0 vv2 n2 O2 HV2.out z hz w hB)
 have hf_ := Lib.hid hf
 have hf2_ := Lib.hid hf2
 clear hf hf2
 have hnot : ∀ (x : Bool) (w : World), (Op.unary .not (.bool x)).run Try.prog w = .ok (.bool (!x)) w := fun _ _ => rfl
 obtain ⟨a, c, rfl, hn9, hO, hM⟩ := HV.out
 have HM := Lib.hid hM
 have HO := Lib.hid hO
 have fw : (∀ j, j < n → (O j).len ≤ 600) ∧ n ≤ 30 := by have := hf_.out; unfold fewV at this; simpa using this
 have HL := Lib.hid fw.1
 have n30 := fw.2
 clear hM hO fw HV
 obtain ⟨a2, c2, rfl, hn92, hO, hM⟩ := HV2.out
 have HM2 := Lib.hid hM
 have HO2 := Lib.hid hO
 have fw : (∀ j, j < n2 → (O2 j).len ≤ 600) ∧ n2 ≤ 30 := by have := hf2_.out; unfold fewV at this; simpa using this
 have HL2 := Lib.hid fw.1
 have n302 := fw.2
 clear hM hO fw HV2
 go_enter Try.func4, Try.ntmps4
 go_wp2_with (fail)
 with_reducible refine (AW.out _).mono ?_
 rintro q_ u1 ⟨rfl, hb⟩
 have B1 := Lib.hid (vian HN.out B0.out hb)
 clear hb B0
 go_wp2_with (fail)
 with_reducible refine (FW.out true hf_.out _ B1.out).mono ?_
 rintro q_ w' ⟨rfl, hb⟩
 have hb' := hb.symm
 clear hb
 subst hb'
 go_wp2_with (fail)
 with_reducible refine (FW2.out true hf2_.out _ B1.out).mono ?_
 rintro q_ w' ⟨rfl, hb⟩
 have hb' := hb.symm
 clear hb
 subst hb'
 go_wp2_with (fail)
 with_reducible refine (new_c _).mono ?_
 rintro q_ u2 ⟨rfl, hP, hb⟩
 have B2 := Lib.hid (vian HN.out B1.out hb)
 have P2 := Lib.hid hP
 have LP := Lib.hid (Nat.le_trans HN.out B1.out.size)
 clear hb hP B1
 generalize u1.heap.size = pb at P2 LP  ⊢
 go_wp2_with (fail)
 with_reducible refine (new_c _).mono ?_
 rintro q_ u3 ⟨rfl, hD, hb⟩
 have B3 := Lib.hid (vian HN.out B2.out hb)
 have P3 := Lib.hid (P2.out.below hb)
 have D3 := Lib.hid hD
 have LD := Lib.hid (Nat.le_trans HN.out B2.out.size)
 have NPD := Lib.hid (Nat.ne_of_lt P2.out.1)
 clear hb hD B2 P2
 generalize u2.heap.size = pd at D3 LD NPD ⊢
 go_wp2_with (fail)
 refine (rnew_c _).mono ?_
 rintro q_ u4 ⟨r, v, s, rfl, hQ, lr, lv, ls, hb⟩
 have B4 := Lib.hid (vian HN.out B3.out hb)
 have P4 := Lib.hid (P3.out.below hb)
 have D4 := Lib.hid (D3.out.below hb)
 have Q4 := Lib.hid hQ
 have LR := Lib.hid (Nat.le_trans (Nat.le_trans HN.out B3.out.size) lr)
 have LV := Lib.hid (Nat.le_trans (Nat.le_trans HN.out B3.out.size) lv)
 have LS := Lib.hid (Nat.le_trans (Nat.le_trans HN.out B3.out.size) ls)
 have AP := Lib.hid (show Apart pb r v s from ⟨by have := P3.out.1; omega, by have := P3.out.1; omega, by have := P3.out.1; omega⟩)
 have AD := Lib.hid (show Apart pd r v s from ⟨by have := D3.out.1; omega, by have := D3.out.1; omega, by have := D3.out.1; omega⟩)
 have NC := Lib.hid (show pd ≠ pb ∧ pd ≠ r ∧ pd ≠ v ∧ pd ≠ s from ⟨Ne.symm NPD.out, AD.out.r, AD.out.v, AD.out.s⟩)
 have ND := Lib.hid (show pb ≠ pd ∧ pb ≠ r ∧ pb ≠ v ∧ pb ≠ s from ⟨NPD.out, AP.out.r, AP.out.v, AP.out.s⟩)
 have C4 := Lib.hid (show BelC pd (encU zeroM) n_ W0 u4 from ⟨B4.out, D4.out⟩)
 clear hb hQ lr lv ls B3 P3 D3 B4 D4
 go_wp2
 go_loopg [29] n (fun g' i wr => ∃ (t : Nat), t ≤ n ∧ g' + t = n ∧ i = .int .i64 t ∧ BelC pd (encU zeroM) n_ W0 wr ∧ Has wr pb (encU (runM O t zeroM)) ∧ RU wr r v s (runM O t zeroM))
 case atStart => exact ⟨0, by omega, by omega, rfl, C4.out, by rw [run_zero]; exact P4.out, by rw [run_zero]; exact Q4.out⟩
 case round =>
  obtain ⟨t, ht, hg, rfl, hB, hP, hQ⟩ := hrel
  have TG := Lib.hid hg
  have C5 := Lib.hid hB
  have P5 := Lib.hid hP
  have Q5 := Lib.hid hQ
  clear hg hB hP hQ C4 P4 Q4
  obtain ⟨u5, hu⟩ : ∃ q_, q_ = wr := ⟨_, rfl⟩
  subst hu
  have okt := run_ok (fun j => ⟨(HO.out j).1, by obtain ⟨_, _, _, _, h3, _⟩ := (HO.out j).2; exact h3⟩) ok_zero t
  by_cases hlt : t < n
  ·have l1 : (t : Int) < n := by omega
   obtain ⟨b, o, e, hb, hc⟩ := HM.out (by omega)
   subst e
   have DC := Lib.hid (do_c pd (encU zeroM) n_ W0 pb r v s NC.out AP.out LP.out LR.out LV.out LS.out HN.out (runM O t zeroM) okt (O t) (HO.out t).1 (HO.out t).2 (HL.out t hlt) u5 P5.out Q5.out C5.out)
   rw [← run_succ] at DC
   have rg : u5.rangeAt b (o + t * 5) (O t).cells.toList := fun q vq hq => by
    have hq5 : q < 5 := by
     obtain ⟨h, _⟩ := List.getElem?_eq_some_iff.1 hq
     exact h
    rw [Array.getElem?_toList] at hq
    exact ((C5.out.cell (p := ⟨b, o + t * 5 + q, none⟩) hb).trans (hc t hlt q hq5)).trans hq
   have RG := Lib.hid rg
   clear hc okt rg
   go_wp2_with (refine load_op RG.out rfl _ rfl rfl ?_)
   try simp only [Act.put, qqA, qqB, qqC]
   go_wp2_with (fail)
   with_reducible refine (DC.out).mono ?_
   rintro q_ u6 ⟨rfl, hP, hQ, hB⟩
   have C6 := Lib.hid hB
   have P6 := Lib.hid hP
   have Q6 := Lib.hid hQ
   clear hB hP hQ C5 P5 Q5 DC RG
   go_wp2
   go_roundg (gk - 1)
   ·exact ⟨t + 1, by omega, by have := TG.out; omega, by simp, C6.out, P6.out, Q6.out⟩
   case measure => have := TG.out; omega
  ·obtain rfl : n = t := by omega
   have OK := Lib.hid okt
   clear okt
   obtain ⟨m, hm⟩ : ∃ m, m = runM O n zeroM := ⟨_, rfl⟩
   rw [← hm] at OK P5 Q5
   have B5 := Lib.hid C5.out.B
   have D5 := Lib.hid C5.out.H
   clear hm ht hlt TG C5
   go_wp2_with (fail)
   refine (enc_c pb m OK.out _ P5.out).mono ?_
   rintro q_ u6 ⟨v1, g1, rfl, hR, lg, hb⟩
   have B6 := Lib.hid (vian HN.out B5.out hb)
   have P6 := Lib.hid (P5.out.below hb)
   have D6 := Lib.hid (D5.out.below hb)
   have Q6 := Lib.hid (Q5.out.below hb)
   have R6 := Lib.hid hR
   have NGD := Lib.hid (show g1 ≠ pd from fun e => absurd D5.out.1 (by omega))
   clear hb hR lg B5 P5 D5 Q5
   go_wp2_with (fail)
   with_reducible refine (dec_ok pd zeroM (encF m) (enc_sta OK.out) (fun j hj => enc_bd OK.out.b j hj) v1 g1 NGD.out _ R6.out D6.out).mono ?_
   rintro q_ u7 ⟨rfl, hD, hk⟩
   have D7 := Lib.hid (show Has u7 pd (encU m) from by rw [← encU_congr _ _ (dec_enc OK.out)]; exact hD)
   have B7 := Lib.hid (hk.below HN.out LD.out B6.out)
   have P7 := Lib.hid (hk.has NPD.out P6.out)
   have Q7 := Lib.hid (Q6.out.other hk AD.out.r AD.out.v AD.out.s)
   have R7 := Lib.hid (show RowB u7 v1 31408 (encF m) g1 from by
    obtain ⟨c, e, h1, h2, h3, h4⟩ := R6.out
    exact ⟨c, e, h1, Nat.lt_of_lt_of_le h2 hk.size, fun j hj => ((cell_block (hk.block g1 h2 NGD.out) j).1).trans (h3 j hj), fun j => ((cell_block (hk.block g1 h2 NGD.out) j).2).trans (h4 j)⟩)
   clear hD hk B6 P6 Q6 R6 D6
   go_wp2_with (fail)
   refine (enc_c pd m OK.out _ D7.out).mono ?_
   rintro q_ u8 ⟨v2, g2, rfl, hR, _, hb⟩
   have B8 := Lib.hid (vian HN.out B7.out hb)
   have P8 := Lib.hid (P7.out.below hb)
   have D8 := Lib.hid (D7.out.below hb)
   have Q8 := Lib.hid (Q7.out.below hb)
   have R8 := Lib.hid (R7.out.below hb)
   have S8 := Lib.hid hR
   clear hb hR B7 P7 D7 Q7 R7
   go_wp2_with (fail)
   with_reducible refine (same_c 31408 (by decide) v2 v1 g2 g1 (encF m) (encF m) (fun _ _ => rfl) _ S8.out R8.out).mono ?_
   rintro q_ u9 ⟨rfl, hb⟩
   have C9 := Lib.hid (show BelC pb (encU m) n_ W0 u9 from ⟨vian HN.out B8.out hb, P8.out.below hb⟩)
   have D9 := Lib.hid (D8.out.below hb)
   have Q9 := Lib.hid (Q8.out.below hb)
   clear hb B8 P8 D8 Q8 R8 S8
   go_wp2
   go_loopg [55] n2 (fun g' i wr => ∃ (t : Nat), t ≤ n2 ∧ g' + t = n2 ∧ i = .int .i64 t ∧ BelC pb (encU m) n_ W0 wr ∧ Has wr pd (encU (runM O2 t m)) ∧ RU wr r v s (runM O2 t m))
   case atStart => exact ⟨0, by omega, by omega, rfl, C9.out, by rw [run_zero]; exact D9.out, by rw [run_zero]; exact Q9.out⟩
   case round =>
    obtain ⟨t, ht, hg, rfl, hB, hP, hQ⟩ := hrel
    have TG := Lib.hid hg
    have C5 := Lib.hid hB
    have P5 := Lib.hid hP
    have Q5 := Lib.hid hQ
    clear hg hB hP hQ C9 D9 Q9
    obtain ⟨u5, hu⟩ : ∃ q_, q_ = wr := ⟨_, rfl⟩
    subst hu
    have okt := run_ok (fun j => ⟨(HO2.out j).1, by obtain ⟨_, _, _, _, h3, _⟩ := (HO2.out j).2; exact h3⟩) OK.out t
    by_cases hlt : t < n2
    ·have l1 : (t : Int) < n2 := by omega
     obtain ⟨b, o, e, hb, hc⟩ := HM2.out (by omega)
     subst e
     have DC := Lib.hid (do_c pb (encU m) n_ W0 pd r v s ND.out AD.out LD.out LR.out LV.out LS.out HN.out (runM O2 t m) okt (O2 t) (HO2.out t).1 (HO2.out t).2 (HL2.out t hlt) u5 P5.out Q5.out C5.out)
     rw [← run_succ] at DC
     have rg : u5.rangeAt b (o + t * 5) (O2 t).cells.toList := fun q vq hq => by
      have hq5 : q < 5 := by
       obtain ⟨h, _⟩ := List.getElem?_eq_some_iff.1 hq
       exact h
      rw [Array.getElem?_toList] at hq
      exact ((C5.out.cell (p := ⟨b, o + t * 5 + q, none⟩) hb).trans (hc t hlt q hq5)).trans hq
     have RG := Lib.hid rg
     clear hc okt rg
     go_wp2_with (refine load_op RG.out rfl _ rfl rfl ?_)
     try simp only [Act.put, qqA, qqB, qqC]
     go_wp2_with (fail)
     with_reducible refine (DC.out).mono ?_
     rintro q_ u6 ⟨rfl, hP, hQ, hB⟩
     have C6 := Lib.hid hB
     have P6 := Lib.hid hP
     have Q6 := Lib.hid hQ
     clear hB hP hQ C5 P5 Q5 DC RG
     go_wp2
     go_roundg (gk - 1)
     ·exact ⟨t + 1, by omega, by have := TG.out; omega, by simp, C6.out, P6.out, Q6.out⟩
     case measure => have := TG.out; omega
    ·obtain rfl : n2 = t := by omega
     go_wp2_with (fail)
     refine (enc_c pd _ okt _ P5.out).mono ?_
     rintro q_ u6 ⟨v3, g3, rfl, hR, _, hb⟩
     have B6 := Lib.hid (vian HN.out C5.out.B hb)
     have Q6 := Lib.hid (Q5.out.below hb)
     have R6 := Lib.hid hR
     clear hb hR C5 P5 Q5
     go_wp2_with (fail)
     refine (renc_c r v s _ okt _ Q6.out).mono ?_
     rintro q_ u7 ⟨v4, g4, rfl, hR, _, hb⟩
     have B7 := Lib.hid (vian HN.out B6.out hb)
     have R7 := Lib.hid (R6.out.below hb)
     have S7 := Lib.hid hR
     clear hb hR B6 Q6 R6
     go_wp2_with (fail)
     with_reducible refine (same_c 31408 (by decide) v3 v4 g3 g4 _ _ (fun _ _ => rfl) _ R7.out S7.out).mono ?_
     rintro q_ u8 ⟨rfl, hb⟩
     have B8 := Lib.hid (vian HN.out B7.out hb)
     clear hb B7 R7 S7
     go_wp2
     all_goals exact bodyPost_ret (v := .bool true) (by simp [results, Try.results4, go_sem]) rfl ⟨rfl, B8.out⟩
/-- The walk. -/
theorem back_walk (vv : Value) (n : Nat) (O : Nat → OpV) (vv2 : Value) (n2 : Nat) (O2 : Nat → OpV) (w : World) (hV : OpsB w.heap.size w vv n O) (hV2 : OpsB w.heap.size w vv2 n2 O2) : Calls Try.prog 4 #[vv, vv2] w fun q_ w' => q_ = .returned (.bool true) ∧ Below w.heap.size w w' := by
 cases hf : fewV n O with
 | false => exact bkw_m1 w.heap.size w (Nat.le_refl _) vv vv2 n n2 O O2 hV hV2 hf w (Below.refl _ _)
 | true =>
  cases hf2 : fewV n2 O2 with
  | false => exact bkw_m2 w.heap.size w (Nat.le_refl _) vv vv2 n n2 O O2 hV hV2 hf hf2 w (Below.refl _ _)
  | true => exact bkw_t w.heap.size w (Nat.le_refl _) vv vv2 n n2 O O2 hV hV2 hf hf2 w (Below.refl _ _)
end Go.Proofs.Ytpfbodmadmneiaa
namespace Go.Proofs.Ytpfbodmadmneiaa.ppuBack
open Go.ChangeShapes Go.WideShapes Go.ChangeAt Go.RowKit
set_option linter.unusedVariables false
set_option maxRecDepth 100000 in
theorem lifted (os : Os) (started : os.Started) (H : Type) (enc : TypeId × Value → H) :
    ReturnsInHanded {} Try.checked os 4 .any (Rows.ppuBackSpec.pre6 enc Try.prog Try.f4 Rows.ppuBackRow.domain false) (Rows.ppuBackSpec.post enc Try.prog Try.f4 false true false false) := by
  refine returnsInHanded_of_change (C := Try.checked) own started (by kernel_rfl) Try.func4
    (ChangeSpec.witness6 (enc := enc) (C := Try.checked) false ⟨#[], #[.slice none 0 0, .slice none 0 0], []⟩ 8 (by kernel_rfl) (by kernel_rfl) (by kernel_rfl) (by kernel_rfl)) ?_
  intro W base args ds gs before hval0 hW hcnd _
  have hval : ∀ (j : Nat) t v, Try.f4.params[j]? = some t → args[j]? = some v → Value.okWide Try.prog W .any base t v := hval0
  have hW' := hW
  obtain ⟨p, q, hA0, hV, rfl, hfz, hnd⟩ := hW
  have hA : DataW.TrodAll enc Try.prog W 0 (fun _ => true) true Try.f4.params.toList args.toList ds p := hA0
  rw [Try.params4] at hA hval
  obtain ⟨v0, vs0, d0, ds0, p0, q0, hargs, rfl, rfl, h0, r0⟩ := trodAll_cons hA
  obtain ⟨v1, vs1, d1, ds1, p1, q1, rfl, rfl, rfl, h1, r1⟩ := trodAll_cons r0
  obtain ⟨rfl, rfl, rfl⟩ := trodAll_nil r1
  obtain rfl : args = #[v0, v1] := by cases args; simp_all
  obtain ⟨rfl, rfl⟩ := trodVars_none hV
  have o0 := open_ops (hval 0 22 v0 rfl rfl) h0
  obtain ⟨n0, O0, hO0⟩ := o0
  have o1 := open_ops (hval 1 22 v1 rfl rfl) h1
  obtain ⟨n1, O1, hO1⟩ := o1
  clear hA0 hval0
  refine (back_walk v0 n0 O0 v1 n1 O1 W hO0 hO1).mono fun e W' ⟨he, hg⟩ => ?_
  subst he
  exact ⟨_, rfl, law_post laidOut hW' rfl rfl rfl (trodAll_cons_mk (shut_bool Try.underlying4 _) trodAll_mk0)
    (fun t ht => by rw [Try.params4] at ht; simp at ht; rcases ht with rfl | rfl <;> exact ⟨by kernel_rfl, of_decide_eq_true (by kernel_rfl)⟩) hg⟩

theorem over : Rows.ppuBackRow.holds Try.pinned (OpenSpec.ofChange Rows.ppuBackSpec) :=
  OpenClaim.holds_of_wide 4 Try.f4 rfl rfl rfl rfl rfl rfl rfl ⟨rfl, rfl, rfl, rfl, rfl⟩ rfl rfl rfl rfl rfl (by kernel_rfl) Try.func4 (by kernel_rfl)
    (of_decide_eq_true (by kernel_rfl)) (by unfold Func.isWrapper; first | (rw [if_pos (by decide +kernel)]; kernel_rfl) | (rw [if_neg (by decide +kernel)]; exact ⟨rfl, rfl⟩))
    (fun os started H enc _ => lifted os started H enc)

/-- The statement. -/
theorem proved : Rows.PpuBackSaid :=
  over
#print axioms proved
end Go.Proofs.Ytpfbodmadmneiaa.ppuBack
