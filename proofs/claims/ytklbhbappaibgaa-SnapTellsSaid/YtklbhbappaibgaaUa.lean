/-
  Unpacking, as the program does it: for every world in which the slices lie as told; they have at most 16000 bytes.
-/
import Derived.Test.YtklbhbappaibgaaUp
import Derived.StillTailTactics
namespace Go.Proofs.Ytklbhbappaibgaa
open Go.ChangeShapes Go.WideShapes Go.ChangeAt Go.RowKit
set_option linter.unusedVariables false
set_option linter.unusedSimpArgs false
set_option maxRecDepth 100000
set_option maxHeartbeats 8000000 in
theorem un_pass (a1 a2 : Option Addr) (n np c1 c2 : Nat) (B P : List Nat) (n1 : B.length = n) (n2 : P.length = np) (hm : n ≤ 16000) (hmp : np ≤ 16000) (w : World) (h1 : Rd w (.slice a1 n c1) B) (h2 : Rd w (.slice a2 np c2) P) (m : Nat) (a' : Act) (w' : World) (hJ : UJ a1 a2 n np c1 c2 B P w m a' w')
  (Q' : Exit → Act → World → Prop) (hq : ∀ a w', bodyPost Try.prog Try.f13 (UnpE B P w) .ret a w' → Q' .ret a w') (hg : ∀ n' a' w', n' < m → UJ a1 a2 n np c1 c2 B P w n' a' w' → Q' (.goto 0) a' w') (hk : ∀ a' w', UK a1 a2 n np c1 c2 B P w a' w' → Q' (.goto 1) a' w') : Code.wp Try.prog (behind Try.f13 0) Q' a' w' := by
 obtain ⟨O, q, sb, sr, u8, u9, u10, u11, u12, u13, u14, u15, u16, u17, u18, u19, u20, u21, u22, u23, u24, u25, u26, u27, u28, u29, u30, u31, u32, u33, u34, u35, u36, u37, u38, u39, u40, u41, u42, u43, u44, u45, u46, u47, u48, u49, u50, u51, u52, u53, u54, u55, u56, u57, u58, u59, u60, u61, u62, u63, u64, u65, u66, u67, u68, u69, u70, u71, u72, u73, u74, u75, u76, u77, u78, u79, u80, u81, u82, u83, u84, rfl, hO, hqm, hm16, ho, hr, hb, hu⟩ := hJ
 have R1 := Lib.hid h1
 have R2 := Lib.hid h2
 have N1 := Lib.hid n1
 have HO := Lib.hid ho
 have HR := Lib.hid hr
 have HB := Lib.hid hb
 have HU := Lib.hid hu
 have HQ := Lib.hid hq
 have HG := Lib.hid hg
 have HK := Lib.hid hk
 have QM := Lib.hid hqm
 obtain ⟨ab, cb, rfl⟩ := ho.slice
 obtain ⟨lo, hlo⟩ : ∃ q_, O.length = q_ := ⟨_, rfl⟩
 rw [hlo] at HO hO ⊢
 have LO := Lib.hid hlo
 obtain ⟨mo, hmo⟩ : ∃ q_, n - lo = q_ := ⟨_, rfl⟩
 have MO := Lib.hid hmo
 have moi : (n : Int) - lo = mo := by omega
 have mob : mo ≤ 16000 := by omega
 rcases ht : tk q mo with ⟨e, nn, kk⟩
 have HT := Lib.hid (show tk q (B.length - O.length) = (e, nn, kk) by rw [N1.out, LO.out, MO.out]; exact ht)
 have T1 := Lib.hid ht
 clear ho hb hr hu n1 n2 h1 h2 hq hg hk hqm hlo hmo ht
 unfold behind
 conv => { arg 2; whnf }
 obtain ⟨u, hu⟩ : ∃ q_, q_ = w' := ⟨_, rfl⟩
 subst hu
 go_wp2_with (fail)
 refine (tk_c sr q (by rw [QM.out]; omega) mo (by omega) u (HR.out.below HB.out)).mono ?_
 unfold TkE
 rw [T1.out]
 rintro q_ u2 ⟨s2, rfl, r2, b2⟩
 have HO2 := Lib.hid (HO.out.below b2)
 have HB2 := Lib.hid (via HB.out b2)
 have r2' := r2 w HR.out
 dsimp only at r2' ⊢
 by_cases he : e = 0
 case neg =>
  have RES := Lib.hid (unp_err (HU.out.symm.trans (un_err HT.out he)) he)
  have hne : ((e : Int) != 0) = true := by simp; omega
  clear he r2 r2' b2 HO HB
  go_wp2
  refine HQ.out _ _ ?_
  go_ret2
  exact UnpE.bad RES.out HB2.out
 subst he
 rw [if_pos rfl] at r2'
 have HR2 := Lib.hid r2'
 obtain ⟨hnm, hk1, hkq, _⟩ := tk_ok T1.out
 have KQ := Lib.hid (show 1 ≤ kk ∧ kk ≤ q.length from ⟨hk1, hkq⟩)
 clear r2 r2' b2 HO HB hk1 hkq
 obtain ⟨l1, hl1⟩ : ∃ q_, q_ = lo + nn := ⟨_, rfl⟩
 have l1i : (lo : Int) + nn = l1 := by omega
 have L1 := Lib.hid hl1
 have l1n : l1 ≤ n := by have := MO.out; omega
 have l01 : lo ≤ l1 := by omega
 clear hl1
 obtain ⟨V1, s1, r1⟩ := cut2_c R1.out lo l1 l01 (by rw [N1.out]; exact l1n) _ (rfl : (l1 : Int) = l1)
 obtain ⟨s3, u3, hr, ho, hb⟩ := app_c HO2.out (r1 _ (R1.out.below HB2.out)) HB2.out.size (by rw [LO.out]; simp; omega)
 have RUN := Lib.hid hr
 have HTK := Lib.hid (show (B.take l1).drop lo = (B.drop O.length).take nn by rw [List.drop_take, LO.out, show l1 - lo = nn by have := L1.out; omega])
 rw [HTK.out] at ho
 obtain ⟨O1, hO1⟩ : ∃ q_, O ++ (B.drop O.length).take nn = q_ := ⟨_, rfl⟩
 have OL1 : O1.length = l1 := by rw [← hO1, len_take (by rw [N1.out, LO.out, MO.out]; exact hnm), LO.out, L1.out]
 rw [hO1] at ho
 have HO1 := Lib.hid hO1
 have HO3 := Lib.hid ho
 have HB3 := Lib.hid (HB2.out.trans hb)
 have OL1H := Lib.hid OL1
 clear hr ho hb r1 HO2 HB2 hO1
 go_upto_region 9 with (at_builtin; refine wpList_append_run rfl _ _ _ (.slice ab lo cb) V1 _ rfl rfl rfl RUN.out ?_)
 obtain ⟨a3, c3, rfl⟩ := HO3.out.slice
 rw [OL1] at HO3 ⊢
 clear OL1 s1
 by_cases hend : l1 = n
 ·have RES := Lib.hid (show un B [] P false = (0, O1, q.drop kk) by
   rw [← HU.out, un_last HT.out (by have := LO.out; have := L1.out; have := N1.out; omega), HO1.out])
  have hc : ((l1 : Int) == n) = true := by simp; omega
  have he2 := Lib.hid hend
  clear hend
  go_wp2
  go_step3
  refine HK.out _ _ ?_
  exact ⟨O1, q.drop kk, _, s2, _, _, _, _, _, _, _, _, _, _, _, _, _, _, _, _, _, _, _, _, _, _, _, _, _, _, _, _, _, _, _, _, _, _, _, _, _, _, _, _, _, _, _, _, _, _, _, _, _, _, _, _, _, _, _, _, _, _, _, _, _, _, _, _, _, _, _, _, _, _, _, _, _, _, _, _, _, rfl, by rw [OL1H.out]; exact he2.out, HO3.out, HR2.out, HB3.out, RES.out⟩
 have hc : ((l1 : Int) == n) = false := by simp; omega
 have UN := Lib.hid (show un B [] P false = un B O1 (q.drop kk) true by
  rw [← HU.out, un_eq HT.out (by have := LO.out; have := L1.out; have := N1.out; omega), HO1.out])
 clear hend
 obtain ⟨q1, hq1⟩ : ∃ q_, q.drop kk = q_ := ⟨_, rfl⟩
 have Q1L := Lib.hid (show q1.length = q.length - kk by rw [← hq1]; simp)
 rw [hq1] at HR2 UN
 clear hq1
 obtain ⟨m2, hm2⟩ : ∃ q_, n - l1 = q_ := ⟨_, rfl⟩
 have M2 := Lib.hid hm2
 have m2i : (n : Int) - l1 = m2 := by omega
 have m2b : m2 ≤ 16000 := by omega
 rcases ht : tk q1 m2 with ⟨e, n2, k2⟩
 have HT2 := Lib.hid (show tk q1 (B.length - O1.length) = (e, n2, k2) by rw [N1.out, OL1H.out, M2.out]; exact ht)
 have T2 := Lib.hid ht
 clear hm2 ht
 go_wp2_with (fail)
 refine (tk_c s2 q1 (by rw [Q1L.out, QM.out]; omega) m2 (by omega) u3 (HR2.out.below HB3.out)).mono ?_
 unfold TkE
 rw [T2.out]
 rintro q_ u4 ⟨s4, rfl, r4, b4⟩
 have HO4 := Lib.hid (HO3.out.below b4)
 have HB4 := Lib.hid (via HB3.out b4)
 have r4' := r4 w HR2.out
 dsimp only at r4' ⊢
 by_cases he : e = 0
 case neg =>
  have RES := Lib.hid (unp_err (UN.out.trans (un_err HT2.out he)) he)
  have hne : ((e : Int) != 0) = true := by simp; omega
  clear he r4 r4' b4 HO3 HB3
  go_wp2
  refine HQ.out _ _ ?_
  go_ret2
  exact UnpE.bad RES.out HB4.out
 subst he
 rw [if_pos rfl] at r4'
 have HR4 := Lib.hid r4'
 obtain ⟨hnm2, hk21, hk2q, _⟩ := tk_ok T2.out
 have KQ2 := Lib.hid (show 1 ≤ k2 ∧ k2 ≤ q1.length from ⟨hk21, hk2q⟩)
 clear r4 r4' b4 HO3 HB3 hk21 hk2q
 obtain ⟨ar, nr, cr, rfl, hnr, _⟩ := HR4.out.open
 have NR := Lib.hid (show q1.length - k2 = nr by rw [← hnr]; simp)
 clear hnr
 by_cases hsh : n2 ≤ nr
 case neg =>
  have RES := Lib.hid (unp_err (UN.out.trans (un_short HT2.out (by have := NR.out; omega))) (by decide))
  have hgt : (nr : Int) < n2 := by omega
  clear hsh
  go_wp2
  refine HQ.out _ _ ?_
  go_ret2
  exact UnpE.bad RES.out HB4.out
 have hgt : ¬ (nr : Int) < n2 := by omega
 have UN2 := Lib.hid (UN.out.trans (un_diff HT2.out (by have := NR.out; omega)))
 have RL := Lib.hid (show (q1.drop k2).length = nr by have := NR.out; simp; omega)
 clear hsh
 obtain ⟨V5, s5, r5⟩ := cut3_c HR4.out n2 (by rw [RL.out]; omega) _ (rfl : (n2 : Int) = n2)
 obtain ⟨V6, s6, r6⟩ := cut_c HR4.out n2 (by rw [RL.out]; omega)
 obtain ⟨s7, u5, hr, ho, hb⟩ := app_c HO4.out (r5 _ (HR4.out.below HB4.out)) HB4.out.size (by rw [OL1H.out]; simp; omega)
 have RUN2 := Lib.hid hr
 have HO5 := Lib.hid ho
 have HB5 := Lib.hid (HB4.out.trans hb)
 have HR6 := Lib.hid (r6 w HR4.out)
 clear hr ho hb r5 r6 HO4 HB4 RUN
 go_wp2_with (at_builtin; refine wpList_append_run rfl _ _ _ (.slice a3 l1 c3) V5 _ rfl rfl rfl RUN2.out ?_)
 go_wp2
 go_step3
 refine HG.out ((q1.drop k2).drop n2).length _ _ (by have := KQ.out; have := KQ2.out; have := Q1L.out; have := QM.out; simp; omega) ?_
 exact ⟨_, (q1.drop k2).drop n2, s7, V6, _, _, _, _, _, _, _, _, _, _, _, _, _, _, _, _, _, _, _, _, _, _, _, _, _, _, _, _, _, _, _, _, _, _, _, _, _, _, _, _, _, _, _, _, _, _, _, _, _, _, _, _, _, _, _, _, _, _, _, _, _, _, _, _, _, _, _, _, _, _, _, _, _, _, _, _, _, rfl, by have := OL1H.out; have := M2.out; simp; omega, rfl, by have := Q1L.out; have := QM.out; simp; omega, HO5.out, HR6.out, HB5.out, UN2.out.symm⟩
end Go.Proofs.Ytklbhbappaibgaa
