/-
  Unpacking, as the program does it: for every world in which the slices lie as told; they have at most 16000 bytes.
-/
import Derived.Test.YtklbhbappaibgaaUp
import Derived.StillTailTactics
namespace Go.Proofs.Ytklbhbappaibgaa
open Go.ChangeShapes Go.WideShapes Go.ChangeAt Go.RowKit
set_option linter.unusedVariables false
set_option linter.unusedSimpArgs false
set_option maxRecDepth 100000
set_option maxHeartbeats 8000000 in
theorem un_last2 (a1 a2 : Option Addr) (n np c1 c2 : Nat) (B P : List Nat) (n1 : B.length = n) (n2 : P.length = np) (hm : n ≤ 16000) (hmp : np ≤ 16000) (w : World) (h1 : Rd w (.slice a1 n c1) B) (h2 : Rd w (.slice a2 np c2) P) (a' : Act) (w' : World) (hJ : UK a1 a2 n np c1 c2 B P w a' w')
  (Q' : Exit → Act → World → Prop) (hq : ∀ a w', bodyPost Try.prog Try.f13 (UnpE B P w) .ret a w' → Q' .ret a w') : Code.wp Try.prog (behind Try.f13 1) Q' a' w' := by
 obtain ⟨O, q, sb, sr, u8, u9, u10, u11, u12, u13, u14, u15, u16, u17, u18, u19, u20, u21, u22, u23, u24, u25, u26, u27, u28, u29, u30, u31, u32, u33, u34, u35, u36, u37, u38, u39, u40, u41, u42, u43, u44, u45, u46, u47, u48, u49, u50, u51, u52, u53, u54, u55, u56, u57, u58, u59, u60, u61, u62, u63, u64, u65, u66, u67, u68, u69, u70, u71, u72, u73, u74, u75, u76, u77, u78, u79, u80, u81, u82, u83, u84, rfl, hO, ho, hr, hb, hu⟩ := hJ
 have R1 := Lib.hid h1
 have R2 := Lib.hid h2
 have N1 := Lib.hid n1
 have N2 := Lib.hid n2
 have HO := Lib.hid ho
 have HR := Lib.hid hr
 have HB := Lib.hid hb
 have HU := Lib.hid hu
 have HQ := Lib.hid hq
 have OL := Lib.hid hO
 obtain ⟨ar, nr, cr, rfl, hnr, _⟩ := hr.open
 have NR := Lib.hid hnr
 clear ho hb hr hu n1 n2 h1 h2 hq hO hnr
 unfold behind
 conv => { arg 2; whnf }
 obtain ⟨u, hu⟩ : ∃ q_, q_ = w' := ⟨_, rfl⟩
 subst hu
 by_cases h0 : 0 < nr
 ·have RES := Lib.hid (unp_tl HU.out (by intro h; have := NR.out; rw [h] at this; simp at this; omega))
  have h0i : (0 : Int) < nr := by omega
  clear h0
  go_wp2
  refine HQ.out _ _ ?_
  go_ret2
  exact UnpE.bad RES.out HB.out
 obtain rfl : nr = 0 := by omega
 obtain rfl : q = [] := List.length_eq_zero_iff.1 NR.out
 clear h0
 go_wp2_with (fail)
 refine (pack_c _ sb B O (by rw [N1.out]; exact hm) (by rw [OL.out]; exact hm) u (R1.out.below HB.out) HO.out.rd).mono ?_
 rintro q_ u2 ⟨s2, rfl, o2, b2⟩
 rw [if_pos (by rw [N1.out, OL.out])] at o2 ⊢
 have HO2 := Lib.hid o2
 have HOb := Lib.hid (HO.out.below b2)
 have HB2 := Lib.hid (via HB.out b2)
 clear o2 b2 HO HB
 obtain ⟨z, hz⟩ : ∃ z : Bool, z = decide (pk B O = P) := ⟨_, rfl⟩
 have HZ := Lib.hid hz
 have hnot : ∀ (x : Bool) (w : World), (Op.unary .not (.bool x)).run Try.prog w = .ok (.bool (!x)) w := fun _ _ => rfl
 clear hz
 go_wp2_with (fail)
 refine (equal_c s2 _ (pk B O) P z (by rw [HZ.out]; simp) u2 HO2.out.rd (R2.out.below HB2.out)).mono ?_
 rintro q_ u3 ⟨rfl, hb3⟩
 have hb3' := hb3.symm
 clear hb3
 subst hb3'
 cases z with
 | true =>
  have RES := Lib.hid (unp_fine HU.out (by have := HZ.out; simpa using this.symm))
  go_wp2
  refine HQ.out _ _ ?_
  go_ret2
  exact UnpE.good RES.out HOb.out HB2.out
 | false =>
  have RES := Lib.hid (unp_kind HU.out (by have := HZ.out; simpa using this.symm))
  go_wp2
  refine HQ.out _ _ ?_
  go_ret2
  exact UnpE.bad RES.out HB2.out
end Go.Proofs.Ytklbhbappaibgaa
