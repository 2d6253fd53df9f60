/-
  Proved: for every input the law PpuPlays returns true (Rows.PpuPlaysSaid), with no condition.
-/
import Derived.Test.YtpfbodmadmneiaaXp
import Derived.Deep.Cut
import Derived.BigQuiet
import Derived.WalkSmall
import Derived.Deep.LoopGhost
import Derived.Deep.DeepCutAuto
import Derived.Deep.CutBlock
import Derived.Laws.StructEq
namespace Go.Proofs.Ytpfbodmadmneiaa
open Go.ChangeShapes Go.WideShapes Go.ChangeAt Go.RowKit
set_option linter.unusedVariables false
set_option linter.unusedSimpArgs false
set_option maxRecDepth 100000
theorem row_in_r {m : M} {r v s : Nat} (t : Nat) (ht : t < 144) (w : World) (hQ : RU w r v s m) : w.rangeAt r (19 + t * 160) (enc (fun j => m (8367 + t * 160 + j))).toList := fun j x hx => by
 have hj : j < 160 := by
  obtain ⟨q, _⟩ := List.getElem?_eq_some_iff.1 hx
  rwa [Array.length_toList, enc_size] at q
 rw [Array.getElem?_toList, enc_get _ _ hj] at hx
 rw [hQ.R.2.1, encR_get _ _ _ _ (by omega) (by omega) (by omega) (by omega), rcell_row _ _ (by omega), show rp (19 + t * 160 + j) = 8367 + t * 160 + j by unfold rp; rw [if_neg (by omega), if_neg (by omega), if_neg (by omega), if_neg (by omega)]; omega]
 exact hx
theorem yields_loadk {T : TypeId} {n : Nat} (hT : IsRow T n) {ops : Array Oper} {S : World → Prop} {op : Oper} {a : Act} (A : Array Value) (hs : A.size = n) (b k : Nat) (hS : ∀ w, S w → w.rangeAt b k A.toList) (hw : Region.wanted op (yielded ops a.tmps) = true) (x : Operand) (ho : op.op = .load T x)
  (hx : a.eval x = .pointer (some ⟨b, k, none⟩)) : YieldsIf Try.prog ops S op (.agg A) a := by
 obtain ⟨d, hd, hr⟩ := hT.d
 simpa using yieldsIf_load_mid (P := Try.prog) (ops := ops) (S := S) hw T x ho b k hx A.toList d hS hd hr (by rw [hT.i]; simp [hs])
theorem yields_neq {ops : Array Oper} {S : World → Prop} {op : Oper} {a : Act} (m : M) (hw : Region.wanted op (yielded ops a.tmps) = true) (x y : Operand) (ho : op.op = .binOp .neq 34 x y 34)
  (hx : a.eval x = .agg (enc m)) (hy : a.eval y = .agg (enc m)) : YieldsIf Try.prog ops S op (.bool false) a :=
 .inl ⟨hw, fun w _ => by
  unfold execOp
  simp only [ho, hx, hy]
  have h1 := run_eqGuard_agg (P := Try.prog) w .neq 34 x y (enc m) (enc m) (by kernel_rfl)
  have h2 := run_neq_struct (P := Try.prog) w 34 (enc m) (enc m)
  rw [eq_line] at h2
  simp [Sem.run_bind, h1, h2, Result.andThen]⟩
set_option maxHeartbeats 16000000 in
theorem plw_many (n_ : Nat) (W0 : World) (hn : n_ ≤ W0.heap.size) (vv : Value) (n : Nat) (O : Nat → OpV) (hV : OpsB n_ W0 vv n O) (hf : fewV n O = false) (w : World) (hB : Below n_ W0 w) : Calls Try.prog 3 #[vv] w fun q_ w' => q_ = .returned (.bool true) ∧ Below n_ W0 w' := by
 have HN := Lib.hid hn
 have HV := Lib.hid hV
 obtain ⟨u0, hu0⟩ : ∃ u0, u0 = w := ⟨_, rfl⟩
 rw [← hu0] at hB ⊢
 have B0 := Lib.hid hB
 clear hn hV hB hu0
 have AW := Lib.hid awake_c
 have HF := Lib.hid hf
 clear hf
 have hnot : ∀ (x : Bool) (w : World), (Op.unary .not (.bool x)).run Try.prog w = .ok (.bool (!x)) w := fun _ _ => rfl
 go_enter Try.func3, Try.ntmps3
 go_wp2_with (fail)
 with_reducible refine (AW.out _).mono ?_
 rintro q_ u1 ⟨rfl, hb⟩
 have B1 := Lib.hid (vian HN.out B0.out hb)
 clear hb B0
 go_wp2_with (fail)
 with_reducible refine (few_c n_ W0 vv n O HV.out false HF.out _ B1.out).mono ?_
 rintro q_ w' ⟨rfl, rfl⟩
 go_wp2_with (fail)
 with_reducible refine (AW.out _).mono ?_
 rintro q_ u2 ⟨rfl, hb⟩
 have B2 := Lib.hid (vian HN.out B1.out hb)
 clear hb B1
 go_wp2
 all_goals exact bodyPost_ret (v := .bool true) (by simp [results, Try.results3, go_sem]) rfl ⟨rfl, B2.out⟩
set_option maxHeartbeats 16000000 in
theorem plw_few (n_ : Nat) (W0 : World) (hn : n_ ≤ W0.heap.size) (vv : Value) (n : Nat) (O : Nat → OpV) (hV : OpsB n_ W0 vv n O) (hf : fewV n O = true) (w : World) (hB : Below n_ W0 w) : Calls Try.prog 3 #[vv] w fun q_ w' => q_ = .returned (.bool true) ∧ Below n_ W0 w' := by
 have HN := Lib.hid hn
 have HV := Lib.hid hV
 obtain ⟨u0, hu0⟩ : ∃ u0, u0 = w := ⟨_, rfl⟩
 rw [← hu0] at hB ⊢
 have B0 := Lib.hid hB
 clear hn hV hB hu0
 have AW := Lib.hid awake_c
 have FW := Lib.hid (fun z hz w hB => few_c n_ W0 vv n O HV.out z hz w hB)
 have hf_ := Lib.hid hf
 clear hf
 have hnot : ∀ (x : Bool) (w : World), (Op.unary .not (.bool x)).run Try.prog w = .ok (.bool (!x)) w := fun _ _ => rfl
 obtain ⟨a, c, rfl, hn9, hO, hM⟩ := HV.out
 have HM := Lib.hid hM
 have HO := Lib.hid hO
 have fw : (∀ j, j < n → (O j).len ≤ 600) ∧ n ≤ 30 := by have := hf_.out; unfold fewV at this; simpa using this
 have HL := Lib.hid fw.1
 have n30 := fw.2
 clear hM hO fw HV
 go_enter Try.func3, Try.ntmps3
 go_wp2_with (fail)
 with_reducible refine (AW.out _).mono ?_
 rintro q_ u1 ⟨rfl, hb⟩
 have B1 := Lib.hid (vian HN.out B0.out hb)
 clear hb B0
 go_wp2_with (fail)
 with_reducible refine (FW.out true hf_.out _ B1.out).mono ?_
 rintro q_ w' ⟨rfl, hb⟩
 have hb' := hb.symm
 clear hb
 subst hb'
 go_wp2_with (fail)
 with_reducible refine (new_c _).mono ?_
 rintro q_ u2 ⟨rfl, hP, hb⟩
 have B2 := Lib.hid (vian HN.out B1.out hb)
 have P2 := Lib.hid hP
 have LP := Lib.hid (Nat.le_trans HN.out B1.out.size)
 clear hb hP B1
 generalize u1.heap.size = pb at P2 LP  ⊢
 go_wp2_with (fail)
 refine (rnew_c _).mono ?_
 rintro q_ u3 ⟨r, v, s, rfl, hQ, lr, lv, ls, hb⟩
 have B3 := Lib.hid (vian HN.out B2.out hb)
 have P3 := Lib.hid (P2.out.below hb)
 have Q3 := Lib.hid hQ
 have LR := Lib.hid (Nat.le_trans (Nat.le_trans HN.out B2.out.size) lr)
 have LV := Lib.hid (Nat.le_trans (Nat.le_trans HN.out B2.out.size) lv)
 have LS := Lib.hid (Nat.le_trans (Nat.le_trans HN.out B2.out.size) ls)
 have AP := Lib.hid (show Apart pb r v s from ⟨by have := P2.out.1; omega, by have := P2.out.1; omega, by have := P2.out.1; omega⟩)
 clear hb hQ lr lv ls B2 P2
 go_wp2
 go_loopg [19] n (fun g' i wr => ∃ (t : Nat), t ≤ n ∧ g' + t = n ∧ i = .int .i64 t ∧ Below n_ W0 wr ∧ Has wr pb (encU (runM O t zeroM)) ∧ RU wr r v s (runM O t zeroM))
 case atStart => exact ⟨0, by omega, by omega, rfl, B3.out, by rw [run_zero]; exact P3.out, by rw [run_zero]; exact Q3.out⟩
 case round =>
  obtain ⟨t, ht, hg, rfl, hB, hP, hQ⟩ := hrel
  have TG := Lib.hid hg
  have B4 := Lib.hid hB
  have P4 := Lib.hid hP
  have Q4 := Lib.hid hQ
  clear hg hB hP hQ B3 P3 Q3
  obtain ⟨u4, hu⟩ : ∃ q_, q_ = wr := ⟨_, rfl⟩
  subst hu
  have okt := run_ok (fun j => ⟨(HO.out j).1, by obtain ⟨_, _, _, _, h3, _⟩ := (HO.out j).2; exact h3⟩) ok_zero t
  by_cases hlt : t < n
  ·have l1 : (t : Int) < n := by omega
   obtain ⟨b, o, e, hb, hc⟩ := HM.out (by omega)
   subst e
   have DC := Lib.hid (do_c n_ W0 pb r v s AP.out LP.out LR.out LV.out LS.out HN.out (runM O t zeroM) okt (O t) (HO.out t).1 (HO.out t).2 (HL.out t hlt) u4 P4.out Q4.out B4.out)
   rw [← run_succ] at DC
   have rg : u4.rangeAt b (o + t * 5) (O t).cells.toList := fun q vq hq => by
    have hq5 : q < 5 := by
     obtain ⟨h, _⟩ := List.getElem?_eq_some_iff.1 hq
     exact h
    rw [Array.getElem?_toList] at hq
    exact ((B4.out.cell (p := ⟨b, o + t * 5 + q, none⟩) hb).trans (hc t hlt q hq5)).trans hq
   have RG := Lib.hid rg
   clear hc okt rg
   go_wp2_with (refine load_op RG.out rfl _ rfl rfl ?_)
   try simp only [Act.put, qqA, qqB, qqC]
   go_wp2_with (fail)
   with_reducible refine (DC.out).mono ?_
   rintro q_ u5 ⟨rfl, hP, hQ, hB⟩
   have B5 := Lib.hid hB
   have P5 := Lib.hid hP
   have Q5 := Lib.hid hQ
   clear hB hP hQ B4 P4 Q4 DC RG
   go_wp2
   go_roundg (gk - 1)
   ·exact ⟨t + 1, by omega, by have := TG.out; omega, by simp, B5.out, P5.out, Q5.out⟩
   case measure => have := TG.out; omega
  ·obtain rfl : n = t := by omega
   have OK := Lib.hid okt
   clear okt
   obtain ⟨m, hm⟩ : ∃ m, m = runM O n zeroM := ⟨_, rfl⟩
   rw [← hm] at OK P4 Q4
   clear hm ht hlt TG
   go_wp2
   go_loopg [31] 144 (fun g' i wr => ∃ (t : Nat), t ≤ 144 ∧ g' + t = 144 ∧ i = .int .i64 t ∧ Below n_ W0 wr ∧ Has wr pb (encU m) ∧ RU wr r v s m)
   case atStart => exact ⟨0, by omega, by omega, rfl, B4.out, P4.out, Q4.out⟩
   case round =>
    obtain ⟨t, ht, hg, rfl, hB, hP, hQ⟩ := hrel
    have TG := Lib.hid hg
    have B5 := Lib.hid hB
    have P5 := Lib.hid hP
    have Q5 := Lib.hid hQ
    clear hg hB hP hQ B4 P4 Q4
    obtain ⟨u5, hu⟩ : ∃ q_, q_ = wr := ⟨_, rfl⟩
    subst hu
    by_cases hlt : t < 144
    ·have l1 : (t : Int) < 144 := by omega
     have RR := Lib.hid (row_in_r (m := m) (r := r) (v := v) (s := s) t hlt)
     have RC := Lib.hid (row_0 pb m t hlt)
     generalize (fun j => m (8367 + t * 160 + j) : M) = g at RR RC
     go_upto_region 13 with (fail)
     have B6 := Lib.hid B5.out.drew
     have P6 := Lib.hid P5.out.drew
     have Q6 := Lib.hid Q5.out.drew
     clear B5 P5 Q5
     refine wp_region_held_drew (S := (fun w' => w'.rangeAt r (19 + t * 160) (enc g).toList)) (by kernel_rfl) (RR.out _ Q6.out) (fun hHeld => ?_)
     generalize World.drew _ = u6 at hHeld B6 P6 Q6 ⊢
     refine tzz 0 ?_
     refine tzz 1 ?_
     refine tzz 3 ?_
     refine tzz 4 ?_
     refine tzz 5 ?_
     refine tzz 6 ?_
     refine tzz 7 ?_
     refine wpAnyH_take (i := 8) (oi := ⟨_, _, _, _, _, _⟩) (v := .agg (enc g)) rfl (by kernel_rfl) (by kernel_rfl) (by kernel_rfl) (fun _ _ _ h => h) (yields_loadk r34 (enc g) (enc_size _) r (19 + t * 160) (fun w hw => hw) (by rfl) _ rfl rfl) (by assumption) ?_
     try simp only [Act.put, qqA, qqB, qqC]
     refine wpAnyH_ready (rs := [2]) (by kernel_rfl) (by simp) ?_
     refine (acc rfl (fun K hK => ?_) AllReadyH.nil)
     ·skip
      go_simp
      with_reducible refine (RC.out _ P6.out).mono ?_
      rintro q_ u7 ⟨rfl, hb⟩
      have B7 := Lib.hid (vian HN.out B6.out hb)
      have P7 := Lib.hid (P6.out.below hb)
      have Q7 := Lib.hid (Q6.out.below hb)
      clear hb B6 P6 Q6
      refine hK.out _ _ ?s1 (fun hNew => ?r1)
      case s1 => exact (RR.out _ Q7.out)
      clear hK K hHeld
      have hHeld := hNew
      clear hNew
      refine wpAnyH_take (i := 9) (oi := ⟨_, _, _, _, _, _⟩) (v := .bool false) rfl (by kernel_rfl) (by kernel_rfl) (by kernel_rfl) (fun _ _ _ h => h) (yields_neq g (by rfl) _ _ rfl rfl rfl) (by assumption) ?_
      try simp only [Act.put, qqA, qqB, qqC]
      refine wpAnyH_done (by kernel_rfl) ?_ _
      clear hHeld
      go_wp2
      go_roundg (gk - 1)
      ·exact ⟨t + 1, by omega, by have := TG.out; omega, by simp, B7.out, P7.out, Q7.out⟩
      case measure => have := TG.out; omega
    ·obtain rfl : 144 = t := by omega
     go_wp2_with (fail)
     refine (enc_c pb m OK.out _ P5.out).mono ?_
     rintro q_ u6 ⟨v1, g1, rfl, hR, _, hb⟩
     have B6 := Lib.hid (vian HN.out B5.out hb)
     have Q6 := Lib.hid (Q5.out.below hb)
     have R6 := Lib.hid hR
     clear hb hR B5 P5 Q5
     go_wp2_with (fail)
     refine (renc_c r v s m OK.out _ Q6.out).mono ?_
     rintro q_ u7 ⟨v2, g2, rfl, hR, _, hb⟩
     have B7 := Lib.hid (vian HN.out B6.out hb)
     have R7 := Lib.hid (R6.out.below hb)
     have S7 := Lib.hid hR
     clear hb hR B6 Q6 R6
     go_wp2_with (fail)
     with_reducible refine (same_c 31408 (by decide) v1 v2 g1 g2 (encF m) (encF m) (fun _ _ => rfl) _ R7.out S7.out).mono ?_
     rintro q_ u8 ⟨rfl, hb⟩
     have B8 := Lib.hid (vian HN.out B7.out hb)
     clear hb B7 R7 S7
     go_wp2
     all_goals exact bodyPost_ret (v := .bool true) (by simp [results, Try.results3, go_sem]) rfl ⟨rfl, B8.out⟩
/-- The walk. -/
theorem plays_walk (vv : Value) (n : Nat) (O : Nat → OpV) (w : World) (hV : OpsB w.heap.size w vv n O) : Calls Try.prog 3 #[vv] w fun q_ w' => q_ = .returned (.bool true) ∧ Below w.heap.size w w' := by
 cases hf : fewV n O with
 | false => exact plw_many w.heap.size w (Nat.le_refl _) vv n O hV hf w (Below.refl _ _)
 | true => exact plw_few w.heap.size w (Nat.le_refl _) vv n O hV hf w (Below.refl _ _)
end Go.Proofs.Ytpfbodmadmneiaa
namespace Go.Proofs.Ytpfbodmadmneiaa.ppuPlays
open Go.ChangeShapes Go.WideShapes Go.ChangeAt Go.RowKit
set_option linter.unusedVariables false
set_option maxRecDepth 100000 in
theorem lifted (os : Os) (started : os.Started) (H : Type) (enc : TypeId × Value → H) :
    ReturnsInHanded {} Try.checked os 3 .any (Rows.ppuPlaysSpec.pre6 enc Try.prog Try.f3 Rows.ppuPlaysRow.domain false) (Rows.ppuPlaysSpec.post enc Try.prog Try.f3 false true false false) := by
  refine returnsInHanded_of_change (C := Try.checked) own started (by kernel_rfl) Try.func3
    (ChangeSpec.witness6 (enc := enc) (C := Try.checked) false ⟨#[], #[.slice none 0 0], []⟩ 8 (by kernel_rfl) (by kernel_rfl) (by kernel_rfl) (by kernel_rfl)) ?_
  intro W base args ds gs before hval0 hW hcnd _
  have hval : ∀ (j : Nat) t v, Try.f3.params[j]? = some t → args[j]? = some v → Value.okWide Try.prog W .any base t v := hval0
  have hW' := hW
  obtain ⟨p, q, hA0, hV, rfl, hfz, hnd⟩ := hW
  have hA : DataW.TrodAll enc Try.prog W 0 (fun _ => true) true Try.f3.params.toList args.toList ds p := hA0
  rw [Try.params3] at hA hval
  obtain ⟨v0, vs0, d0, ds0, p0, q0, hargs, rfl, rfl, h0, r0⟩ := trodAll_cons hA
  obtain ⟨rfl, rfl, rfl⟩ := trodAll_nil r0
  obtain rfl : args = #[v0] := by cases args; simp_all
  obtain ⟨rfl, rfl⟩ := trodVars_none hV
  have o0 := open_ops (hval 0 22 v0 rfl rfl) h0
  obtain ⟨n0, O0, hO0⟩ := o0
  clear hA0 hval0
  refine (plays_walk v0 n0 O0 W hO0).mono fun e W' ⟨he, hg⟩ => ?_
  subst he
  exact ⟨_, rfl, law_post laidOut hW' rfl rfl rfl (trodAll_cons_mk (shut_bool Try.underlying4 _) trodAll_mk0)
    (fun t ht => by rw [Try.params3] at ht; simp at ht; rcases ht with rfl <;> exact ⟨by kernel_rfl, of_decide_eq_true (by kernel_rfl)⟩) hg⟩

theorem over : Rows.ppuPlaysRow.holds Try.pinned (OpenSpec.ofChange Rows.ppuPlaysSpec) :=
  OpenClaim.holds_of_wide 3 Try.f3 rfl rfl rfl rfl rfl rfl rfl ⟨rfl, rfl, rfl, rfl, rfl⟩ rfl rfl rfl rfl rfl (by kernel_rfl) Try.func3 (by kernel_rfl)
    (of_decide_eq_true (by kernel_rfl)) (by unfold Func.isWrapper; first | (rw [if_pos (by decide +kernel)]; kernel_rfl) | (rw [if_neg (by decide +kernel)]; exact ⟨rfl, rfl⟩))
    (fun os started H enc _ => lifted os started H enc)

/-- The statement. -/
theorem proved : Rows.PpuPlaysSaid :=
  over
#print axioms proved
end Go.Proofs.Ytpfbodmadmneiaa.ppuPlays
