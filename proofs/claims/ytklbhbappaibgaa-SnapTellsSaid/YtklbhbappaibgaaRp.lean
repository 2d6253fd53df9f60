/-
  The pack, as the document makes it: for every world in which the slices lie as told; they have at most 16000 bytes.
-/
import Derived.Test.YtklbhbappaibgaaPk
namespace Go.Proofs.Ytklbhbappaibgaa
open Go.ChangeShapes Go.WideShapes Go.ChangeAt Go.RowKit
set_option linter.unusedVariables false
set_option linter.unusedSimpArgs false
set_option maxRecDepth 100000
set_option maxHeartbeats 1000000 in
theorem rpack_ne (v1 v2 : Value) (B C : List Nat) (hl : ¬ B.length = C.length) (w : World) (h1 : Rd w v1 B) (h2 : Rd w v2 C) : Calls Try.prog 12 #[v1, v2] w (PackE B C w) := by
 have R := Lib.hid (PackE.ne (w := w) hl)
 obtain ⟨a1, n, c1, rfl, n1, hc1, hz1, by1, at1⟩ := h1.open
 obtain ⟨a2, n', c2, rfl, n2, hc2, hz2, by2, at2⟩ := h2.open
 have hne : ((n : Int) != n') = true := by simp; omega
 clear hl h1 h2 by1 by2 at1 at2 n1 n2
 go_enter Try.func12, Try.ntmps12
 go_wp2
 go_ret2
 exact R.out
set_option maxHeartbeats 8000000 in
theorem rpack_eq (v1 v2 : Value) (B C : List Nat) (hl : B.length = C.length) (hm : C.length ≤ 16000) (w : World) (h1 : Rd w v1 B) (h2 : Rd w v2 C) : Calls Try.prog 12 #[v1, v2] w (PackE B C w) := by
 have R1 := Lib.hid h1
 have R2 := Lib.hid h2
 have LN := Lib.hid (pk_len _ B C (Nat.le_refl _) hl (by omega))
 obtain ⟨a1, n, c1, rfl, n1, hc1, hz1, by1, at1⟩ := h1.open
 obtain ⟨a2, n', c2, rfl, n2, hc2, hz2, by2, at2⟩ := h2.open
 obtain rfl : n = n' := by omega
 have N1 := Lib.hid n1
 have N2 := Lib.hid n2
 rw [n2] at hm
 have hne : ((n : Int) != n) = false := by simp
 clear h1 h2 by1 by2 at1 at2 n1 n2 hz1 hz2 hl
 go_enter Try.func12, Try.ntmps12
 go_wp2
 go_loopg [6, 7] n (fun g' s i wr => ∃ (k : Nat) (M : List Nat) (s' : Value), s = s' ∧ i = .int .i64 k ∧ k ≤ n ∧ g' + k = n ∧ Ow wr w.heap.size s' M ∧ Below w.heap.size w wr ∧ Hid (M ++ pk (B.drop k) (C.drop k) = pk B C))
 case atStart => exact ⟨0, [], _, rfl, rfl, Nat.zero_le _, rfl, Ow.nil w _, Below.refl _ _, Lib.hid (by simp)⟩
 case round =>
  obtain ⟨u, hu⟩ : ∃ q_, q_ = wr := ⟨_, rfl⟩
  subst hu
  obtain ⟨k, M, s, rfl, rfl, hk, hg, ho, hb, HP⟩ := hrel
  have TG := Lib.hid hg
  have HO1 := Lib.hid ho
  have HB1 := Lib.hid hb
  clear hg ho hb
  have LM : M.length ≤ 80010 := by have h := congrArg List.length HP.out; simp at h; have := LN.out; have := N2.out; omega
  have HL := Lib.hid (show (B.drop k).length = n - k ∧ (C.drop k).length = n - k by simp [N1.out, N2.out])
  go_wp2_with (fail)
  refine (al_c _ _ B C k (by rw [N2.out]; exact hk) (by rw [N1.out, N2.out]) (by rw [N2.out]; omega) u (R1.out.below HB1.out) (R2.out.below HB1.out)).mono ?_
  rintro q_ u2 ⟨rfl, b2⟩
  have HO2 := Lib.hid (HO1.out.below b2)
  have HB2 := Lib.hid (via HB1.out b2)
  clear b2 HO1 HB1
  obtain ⟨e, he⟩ : ∃ e, eqR (B.drop k) (C.drop k) = e := ⟨_, rfl⟩
  have ebd : e ≤ n - k := by have := eqR_le (B.drop k) (C.drop k); rw [HL.out.2, he] at this; exact this
  rw [he]
  have HE := Lib.hid he
  clear he
  obtain ⟨k1, hk1⟩ : ∃ q_, q_ = k + e := ⟨_, rfl⟩
  have k1i : (k : Int) + e = k1 := by omega
  have K1 := Lib.hid hk1
  have k1n : k1 ≤ n := by omega
  clear hk1
  go_wp2_with (fail)
  refine (num_c e (by omega) u2).mono ?_
  rintro q_ u3 ⟨s3, rfl, o3, b3⟩
  obtain ⟨s4, u4, hr, ho, hb⟩ := app_c (HO2.out.below b3) o3.rd (via HB2.out b3).size (by have := num_len2 (n := e) (by omega); omega)
  obtain ⟨aM, cM, eM⟩ := HO2.out.slice
  subst eM
  obtain ⟨nM, hnM⟩ : ∃ q_, M.length = q_ := ⟨_, rfl⟩
  rw [hnM] at hr ⊢
  obtain ⟨aN, cN, eN⟩ := o3.slice
  subst eN
  obtain ⟨nN, hnN⟩ : ∃ q_, (num e).length = q_ := ⟨_, rfl⟩
  rw [hnN] at hr ⊢
  have RUN := Lib.hid hr
  have HO4 := Lib.hid ho
  have HB4 := Lib.hid ((via HB2.out b3).trans hb)
  clear hr ho hb o3 b3 HO2 HB2 hnM hnN
  go_upto_region 7 with (at_builtin; refine wpList_append_run rfl _ _ _ (.slice aM nM cM) (.slice aN nN cN) _ rfl rfl rfl RUN.out ?_)
  clear RUN
  by_cases hend : k1 = n
  ·have RES := Lib.hid (show M ++ num e = pk B C by
    have h := HP.out
    rw [pk_end (by rw [HE.out, HL.out.2]; have := K1.out; omega), HL.out.2, show n - k = e by have := K1.out; omega] at h
    exact h)
   have hc : ((k1 : Int) == n) = true := by simp; omega
   clear hend
   go_wp2
   go_ret2
   exact PackE.eq (by rw [N1.out, N2.out]) (by rw [← RES.out]; exact HO4.out) HB4.out
  have hc : ((k1 : Int) == n) = false := by simp; omega
  have k1lt : k1 < n := by omega
  clear hend
  obtain ⟨d, hd⟩ : ∃ d, dR (B.drop k1) (C.drop k1) = d := ⟨_, rfl⟩
  have HL1 := Lib.hid (show (B.drop k1).length = n - k1 ∧ (C.drop k1).length = n - k1 by simp [N1.out, N2.out])
  have dbd : d ≤ n - k1 := by have := dR_le (B.drop k1) (C.drop k1); rw [HL1.out.2, hd] at this; exact this
  have HPK := Lib.hid (show (M ++ num e) ++ num d ++ ((C.take (k1 + d)).drop k1) ++ pk (B.drop (k1 + d)) (C.drop (k1 + d)) = pk B C ∧ 0 < d by
   have h := HP.out
   have hz := @eqR_stop (B.drop k) (C.drop k)
   rw [HE.out, List.drop_drop, List.drop_drop, ← K1.out] at hz
   have hpos : 0 < d := by rw [← hd]; exact dR_pos (by rw [HL1.out.1, HL1.out.2]) hz (by rw [HL1.out.2]; omega)
   rw [pk_more (e := e) (d := d) (by rw [HL.out.1, HL.out.2]) HE.out (by rw [HL.out.2]; have := K1.out; omega) (by rw [List.drop_drop, List.drop_drop, ← K1.out]; exact hd), List.drop_drop, List.drop_drop, List.drop_drop, ← Nat.add_assoc, ← K1.out] at h
   refine ⟨?_, hpos⟩
   rw [← h, List.drop_take, show k1 + d - k1 = d by omega]
   simp only [List.append_assoc])
  have HD := Lib.hid hd
  clear hd
  go_upto_region 10 with (fail)
  go_wp2
  go_loopg [9] n (fun g' i wr => ∃ (t : Nat), k1 + t ≤ n ∧ g' + t = n ∧ i = .int .i64 t ∧ Below u4.heap.size u4 wr ∧ Hid (d = t + dR (B.drop (k1 + t)) (C.drop (k1 + t))))
  case atStart => exact ⟨0, by omega, by omega, rfl, Below.refl _ _, Lib.hid (by rw [← HD.out]; simp)⟩
  case round =>
   obtain ⟨u5, hu⟩ : ∃ q_, q_ = wr := ⟨_, rfl⟩
   subst hu
   obtain ⟨t, ht, hg, rfl, hb, HT⟩ := hrel
   have TG2 := Lib.hid hg
   have HB5 := Lib.hid hb
   clear hg hb
   obtain ⟨j, hj⟩ : ∃ q_, q_ = k1 + t := ⟨_, rfl⟩
   have ji : (k1 : Int) + t = j := by omega
   have J := Lib.hid hj
   rw [← hj] at HT ht
   clear hj
   by_cases hjn : j = n
   ·have l0 : ¬ (j : Int) < n := by omega
    have DT := HT.out
    rw [List.drop_of_length_le (l := C) (by rw [N2.out]; omega)] at DT
    have dt : d = t := by rw [DT]; have := dR_le (B.drop j) []; simp at this; omega
    clear DT hjn
    obtain ⟨u6, hu6⟩ : ∃ q_, q_ = u5 := ⟨_, rfl⟩
    subst hu6
    have B6 := HB5
    have dt2 := dt.symm
    clear dt
    subst dt2
    have k2n : j ≤ n := ht
    have k12 : k1 ≤ j := by have := J.out; omega
    have K2 := Lib.hid J.out
    rw [← J.out] at HPK
    have HO6 := Lib.hid (HO4.out.below B6.out)
    have HB6 := Lib.hid (via HB4.out B6.out)
    go_wp2_with (fail)
    refine (num_c t (by omega) u6).mono ?_
    rintro q_ u7 ⟨s7, rfl, o7, b7⟩
    obtain ⟨s8, u8, hr, ho, hb⟩ := app_c (HO6.out.below b7) o7.rd (via HB6.out b7).size (by have := num_len2 (n := e) (by omega); have := num_len2 (n := t) (by omega); simp; omega)
    obtain ⟨aP, cP, eP⟩ := HO6.out.slice
    subst eP
    obtain ⟨nP, hnP⟩ : ∃ q_, (M ++ num e).length = q_ := ⟨_, rfl⟩
    rw [hnP] at hr ⊢
    obtain ⟨aQ, cQ, eQ⟩ := o7.slice
    subst eQ
    obtain ⟨nQ, hnQ⟩ : ∃ q_, (num t).length = q_ := ⟨_, rfl⟩
    rw [hnQ] at hr ⊢
    have RUN := Lib.hid hr
    have HO8 := Lib.hid ho
    have HB8 := Lib.hid ((via HB6.out b7).trans hb)
    clear hr ho hb o7 b7 HO6 HB6 hnP hnQ
    obtain ⟨V5, s5, r5⟩ := cut2_c R2.out k1 j k12 (by rw [N2.out]; exact k2n) _ (rfl : (j : Int) = j)
    obtain ⟨s9, u9, hr, ho, hb⟩ := app_c HO8.out (r5 _ (R2.out.below HB8.out)) HB8.out.size (by have := num_len2 (n := e) (by omega); have := num_len2 (n := t) (by omega); simp; omega)
    obtain ⟨aR, cR, eR⟩ := HO8.out.slice
    subst eR
    obtain ⟨nR, hnR⟩ : ∃ q_, (M ++ num e ++ num t).length = q_ := ⟨_, rfl⟩
    rw [hnR] at hr RUN
    have RUN2 := Lib.hid hr
    have HO9 := Lib.hid ho
    have HB9 := Lib.hid (HB8.out.trans hb)
    clear hr ho hb hnR r5 HO8 HB8
    go_wp2_with (at_builtin; first | refine wpList_append_run rfl _ _ _ (.slice aP nP cP) (.slice aQ nQ cQ) _ rfl rfl rfl RUN.out ?_ | refine wpList_append_run rfl _ _ _ (.slice aR nR cR) V5 _ rfl rfl rfl RUN2.out ?_)
    go_wp2
    go_roundg (n - j)
    ·exact ⟨j, _, s9, rfl, rfl, k2n, by omega, HO9.out, HB9.out, Lib.hid HPK.out.1⟩
    case measure => have := TG.out; have := K1.out; have := K2.out; have := HPK.out.2; omega
   have l0 : (j : Int) < n := by omega
   clear hjn
   have HLJ := Lib.hid (show (B.drop j).length = n - j ∧ (C.drop j).length = n - j by simp [N1.out, N2.out])
   go_wp2_with (fail)
   refine (al_c _ _ B C j (by rw [N2.out]; exact ht) (by rw [N1.out, N2.out]) (by rw [N2.out]; omega) u5 (R1.out.below (via HB4.out HB5.out)) (R2.out.below (via HB4.out HB5.out))).mono ?_
   rintro q_ u6 ⟨rfl, b6⟩
   have B6 := Lib.hid (via HB5.out b6)
   clear b6 HB5
   obtain ⟨m, hmm⟩ : ∃ m, eqR (B.drop j) (C.drop j) = m := ⟨_, rfl⟩
   have mb : m ≤ n - j := by have := eqR_le (B.drop j) (C.drop j); rw [HLJ.out.2, hmm] at this; exact this
   rw [hmm]
   have HM := Lib.hid hmm
   clear hmm
   by_cases h4 : 4 ≤ m
   ·have h4i : (4 : Int) ≤ m := by omega
    have dt : d = t := by rw [HT.out, dR_stop _ _ (Or.inl (by rw [HM.out]; exact h4)), Nat.add_zero]
    clear h4
    have dt2 := dt.symm
    clear dt
    subst dt2
    have k2n : j ≤ n := ht
    have k12 : k1 ≤ j := by have := J.out; omega
    have K2 := Lib.hid J.out
    rw [← J.out] at HPK
    have HO6 := Lib.hid (HO4.out.below B6.out)
    have HB6 := Lib.hid (via HB4.out B6.out)
    go_wp2_with (fail)
    refine (num_c t (by omega) u6).mono ?_
    rintro q_ u7 ⟨s7, rfl, o7, b7⟩
    obtain ⟨s8, u8, hr, ho, hb⟩ := app_c (HO6.out.below b7) o7.rd (via HB6.out b7).size (by have := num_len2 (n := e) (by omega); have := num_len2 (n := t) (by omega); simp; omega)
    obtain ⟨aP, cP, eP⟩ := HO6.out.slice
    subst eP
    obtain ⟨nP, hnP⟩ : ∃ q_, (M ++ num e).length = q_ := ⟨_, rfl⟩
    rw [hnP] at hr ⊢
    obtain ⟨aQ, cQ, eQ⟩ := o7.slice
    subst eQ
    obtain ⟨nQ, hnQ⟩ : ∃ q_, (num t).length = q_ := ⟨_, rfl⟩
    rw [hnQ] at hr ⊢
    have RUN := Lib.hid hr
    have HO8 := Lib.hid ho
    have HB8 := Lib.hid ((via HB6.out b7).trans hb)
    clear hr ho hb o7 b7 HO6 HB6 hnP hnQ
    obtain ⟨V5, s5, r5⟩ := cut2_c R2.out k1 j k12 (by rw [N2.out]; exact k2n) _ (rfl : (j : Int) = j)
    obtain ⟨s9, u9, hr, ho, hb⟩ := app_c HO8.out (r5 _ (R2.out.below HB8.out)) HB8.out.size (by have := num_len2 (n := e) (by omega); have := num_len2 (n := t) (by omega); simp; omega)
    obtain ⟨aR, cR, eR⟩ := HO8.out.slice
    subst eR
    obtain ⟨nR, hnR⟩ : ∃ q_, (M ++ num e ++ num t).length = q_ := ⟨_, rfl⟩
    rw [hnR] at hr RUN
    have RUN2 := Lib.hid hr
    have HO9 := Lib.hid ho
    have HB9 := Lib.hid (HB8.out.trans hb)
    clear hr ho hb hnR r5 HO8 HB8
    go_wp2_with (at_builtin; first | refine wpList_append_run rfl _ _ _ (.slice aP nP cP) (.slice aQ nQ cQ) _ rfl rfl rfl RUN.out ?_ | refine wpList_append_run rfl _ _ _ (.slice aR nR cR) V5 _ rfl rfl rfl RUN2.out ?_)
    go_wp2
    go_roundg (n - j)
    ·exact ⟨j, _, s9, rfl, rfl, k2n, by omega, HO9.out, HB9.out, Lib.hid HPK.out.1⟩
    case measure => have := TG.out; have := K1.out; have := K2.out; have := HPK.out.2; omega
   have h4i : ¬ (4 : Int) ≤ m := by omega
   by_cases hjm : j + m = n
   ·have jm : (j : Int) + m = n := by omega
    have dt : d = t := by rw [HT.out, dR_stop _ _ (Or.inr (by rw [HM.out, HLJ.out.2]; omega)), Nat.add_zero]
    clear hjm
    have dt2 := dt.symm
    clear dt
    subst dt2
    have k2n : j ≤ n := ht
    have k12 : k1 ≤ j := by have := J.out; omega
    have K2 := Lib.hid J.out
    rw [← J.out] at HPK
    have HO6 := Lib.hid (HO4.out.below B6.out)
    have HB6 := Lib.hid (via HB4.out B6.out)
    go_wp2_with (fail)
    refine (num_c t (by omega) u6).mono ?_
    rintro q_ u7 ⟨s7, rfl, o7, b7⟩
    obtain ⟨s8, u8, hr, ho, hb⟩ := app_c (HO6.out.below b7) o7.rd (via HB6.out b7).size (by have := num_len2 (n := e) (by omega); have := num_len2 (n := t) (by omega); simp; omega)
    obtain ⟨aP, cP, eP⟩ := HO6.out.slice
    subst eP
    obtain ⟨nP, hnP⟩ : ∃ q_, (M ++ num e).length = q_ := ⟨_, rfl⟩
    rw [hnP] at hr ⊢
    obtain ⟨aQ, cQ, eQ⟩ := o7.slice
    subst eQ
    obtain ⟨nQ, hnQ⟩ : ∃ q_, (num t).length = q_ := ⟨_, rfl⟩
    rw [hnQ] at hr ⊢
    have RUN := Lib.hid hr
    have HO8 := Lib.hid ho
    have HB8 := Lib.hid ((via HB6.out b7).trans hb)
    clear hr ho hb o7 b7 HO6 HB6 hnP hnQ
    obtain ⟨V5, s5, r5⟩ := cut2_c R2.out k1 j k12 (by rw [N2.out]; exact k2n) _ (rfl : (j : Int) = j)
    obtain ⟨s9, u9, hr, ho, hb⟩ := app_c HO8.out (r5 _ (R2.out.below HB8.out)) HB8.out.size (by have := num_len2 (n := e) (by omega); have := num_len2 (n := t) (by omega); simp; omega)
    obtain ⟨aR, cR, eR⟩ := HO8.out.slice
    subst eR
    obtain ⟨nR, hnR⟩ : ∃ q_, (M ++ num e ++ num t).length = q_ := ⟨_, rfl⟩
    rw [hnR] at hr RUN
    have RUN2 := Lib.hid hr
    have HO9 := Lib.hid ho
    have HB9 := Lib.hid (HB8.out.trans hb)
    clear hr ho hb hnR r5 HO8 HB8
    go_wp2_with (at_builtin; first | refine wpList_append_run rfl _ _ _ (.slice aP nP cP) (.slice aQ nQ cQ) _ rfl rfl rfl RUN.out ?_ | refine wpList_append_run rfl _ _ _ (.slice aR nR cR) V5 _ rfl rfl rfl RUN2.out ?_)
    go_wp2
    go_roundg (n - j)
    ·exact ⟨j, _, s9, rfl, rfl, k2n, by omega, HO9.out, HB9.out, Lib.hid HPK.out.1⟩
    case measure => have := TG.out; have := K1.out; have := K2.out; have := HPK.out.2; omega
   obtain ⟨jm, hjmm⟩ : ∃ q_, j + m = q_ := ⟨_, rfl⟩
   have jmi : (j : Int) + m = jm := by omega
   have jmn : ((jm : Int) == n) = false := by simp; omega
   have HS := Lib.hid (show d = (t + m + 1) + dR (B.drop (k1 + (t + m + 1))) (C.drop (k1 + (t + m + 1))) by
    have h := HT.out
    rw [dR_skip m (B.drop j) (C.drop j) (by rw [HLJ.out.1, HLJ.out.2]) HM.out (by omega) (by rw [HLJ.out.2]; omega), List.drop_drop, List.drop_drop] at h
    rw [show k1 + (t + m + 1) = j + (m + 1) by have := J.out; omega]
    omega)
   have JN := Lib.hid (show k1 + (t + m + 1) ≤ n by have := J.out; omega)
   clear hjm hjmm h4
   go_wp2
   go_roundg (n - (t + m + 1))
   ·exact ⟨t + m + 1, JN.out, by have := JN.out; omega, by simp, B6.out, HS⟩
   case measure => have := TG2.out; have := JN.out; omega
theorem rpack_c (v1 v2 : Value) (B C : List Nat) (hm2 : C.length ≤ 16000) (w : World) (h1 : Rd w v1 B) (h2 : Rd w v2 C) : Calls Try.prog 12 #[v1, v2] w (PackE B C w) := by
 by_cases hl : B.length = C.length
 ·exact rpack_eq v1 v2 B C hl hm2 w h1 h2
 ·exact rpack_ne v1 v2 B C hl w h1 h2
end Go.Proofs.Ytklbhbappaibgaa
